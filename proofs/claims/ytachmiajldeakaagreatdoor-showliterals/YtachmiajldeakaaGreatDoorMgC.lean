/- My texts GrP GrQ GrR GrS GrT GrU GrV GrW GrX GrY GrZ, joined. -/
import Derived.Test.YtachmiajldeakaaGreatDoorMgB
import Derived.Deep.LoopGhost
import Derived.Maps.AppendAt
set_option linter.unusedVariables false
/- gram's rules from the left. -/
namespace Go.Proofs.YtachmiajldeakaaGreatDoor
open Go.RowKit Go.Maps Go.WideMaps

theorem KidsX.form {w : World} {B : Nat} {E : List Nat} {l : List Gram.Exp} {k : Value} (h : KidsX w B E l k) : ∃ a n c, k = .slice a n c := Kids.form (RepC.noX h)

section
variable (b g cap : Nat) (rv : Value) (T : List Lex.Tk)

set_option maxHeartbeats 3200000 in
set_option maxRecDepth 20000 in
theorem gleft_any (f : Nat) (hR : ∀ f', f' ≤ f → CRead b g cap rv T f') (d lv i : Nat) (w : World) (hlv : lv < 11) (h : Pa w b g cap rv T i d) (hf : ((Gram.read T f d (lv + 1) i).bind fun a j => Gram.lefts T f d lv a j).isFuel = false) :
    Calls Tryz.prog 72 #[.pointer (some ⟨b, 0, none⟩), .int .i64 (lv : Int)] w fun e w' => ePost w b g cap rv T d ((Gram.read T f d (lv + 1) i).bind fun a j => Gram.lefts T f d lv a j) e w' := by
  have hP0 := h.alloc exp0
  have hbw := h.bl
  have hwr : IntKind.i64.wrap ((lv : Int) + 1) = (lv : Int) + 1 := by rw [IntKind.wrap_i64]; omega
  cases hr1 : Gram.read T f d (lv + 1) i with
  | fuel => rw [hr1] at hf; cases hf
  | bad a er =>
    have hc := hR f (Nat.le_refl _) d (lv + 1) i _ (by omega) hP0 (by rw [hr1]; rfl)
    rw [hr1] at hc
    have hc2 : Calls Tryz.prog 113 #[.pointer (some ⟨b, 0, none⟩), .int .i64 ((lv : Int) + 1)] (w.alloc exp0) fun e w' => gBad (w.alloc exp0) b a er e w' := hc
    clear hc hf hr1 hR
    go_enter Tryz.func72, Tryz.ntmps72
    go_wp2_with (go_at_call 113; refine hc2.mono ?_; rintro e w1 ⟨rfl, hg1⟩)
    exact ⟨rfl, rfl, (grown_some (World.grownBy_alloc w exp0 none) b).trans hg1⟩
  | ok x0 j0 =>
    rw [hr1] at hf
    have hc := hR f (Nat.le_refl _) d (lv + 1) i _ (by omega) hP0 (by rw [hr1]; rfl)
    rw [hr1] at hc
    have hc2 : Calls Tryz.prog 113 #[.pointer (some ⟨b, 0, none⟩), .int .i64 ((lv : Int) + 1)] (w.alloc exp0) fun e w' => ∃ k, e = .returned (expV x0 k) ∧ Kids w' (w.alloc exp0).heap.size x0.kids k ∧ Pa w' b g cap rv T j0 d ∧ (w.alloc exp0).grownBy w' (some b) := hc
    clear hc
    have hf1 : (Gram.lefts T f d lv x0 j0).isFuel = false := hf
    show Calls _ _ _ _ fun e w' => ePost w b g cap rv T d (Gram.lefts T f d lv x0 j0) e w'
    clear hf hr1
    have HH := Lib.hid h
    clear h hP0
    have hx0 : ∃ k0, expCells x0 k0 = expCells x0 k0 := ⟨.nilFunc, rfl⟩
    clear hx0
    cases hx : x0 with
    | mk g1 u1 om1 vk1 vl1 o1 p1 us1 c1 =>
    rw [hx] at hc2
    simp only [expV] at hc2
    have HX := Lib.hid hx
    clear hx
    rw [← HX.out]
    go_enter Tryz.func72, Tryz.ntmps72
    go_wp2_with (go_at_call 113; refine hc2.mono ?_; rintro e w1 ⟨k1, rfl, hk1, hP1, hg1⟩; refine Hid.out ?_)
    obtain ⟨la, ln, lc, rfl⟩ := hk1.form
    have hs1 := hg1.size
    rw [World.size_alloc] at hs1
    refine Lib.hid ?_
    go_wp2
    go_loopg [] f (fun (f' : Nat) (wr : World) => ∃ (x : Gram.Exp) (j : Nat) (ka : Option Addr) (kn kc : Nat), f' ≤ f ∧ Hid (wr.heap[w1.heap.size]? = some (.cells (expCells x (.slice ka kn kc)).toArray 28 (0, 0)) ∧ KidsX wr (w.heap.size + 1) [w1.heap.size] x.kids (.slice ka kn kc) ∧ Pa wr b g cap rv T j d ∧ (w.alloc exp0).grownBy wr (some b) ∧ Gram.lefts T f' d lv x j = Gram.lefts T f d lv x0 j0))
    case atStart =>
      refine ⟨x0, j0, la, ln, lc, Nat.le_refl _, Lib.hid ⟨?_, ?_, hP1.alloc _, galloc hg1 _, rfl⟩⟩
      · rw [HX.out]; exact heap_alloc_new w1 _
      · rw [HX.out]
        refine RepC.kept (World.grownBy_alloc w1 _ none) (fun k e => by cases e) (RepC.toX [w1.heap.size] (fun k e => by obtain rfl := List.mem_singleton.1 e; exact .inl (Nat.le_refl _)) ?_)
        have e : (w.alloc exp0).heap.size = w.heap.size + 1 := by simp
        rw [← e]; exact hk1
    case round =>
      obtain ⟨x, j, ka, kn, kc, hff, HG⟩ := hrel
      obtain ⟨hE, hk, hP, hg, hL⟩ := HG.out
      rw [← hL] at hf1
      have HL := Lib.hid hL
      clear HG hL
      cases x with
      | mk f1 s1 nm1 tk1 tl1 n1 m1 ks1 a1 =>
      rcases Nat.eq_zero_or_pos gk with hz | hz
      · rw [hz] at hf1; exact absurd hf1 (by simp [Gram.lefts, Gram.PR.isFuel])
      obtain ⟨f', hfe⟩ : ∃ f', gk = f' + 1 := ⟨gk - 1, by omega⟩
      subst hfe
      have hS := gsign_any b g cap rv T j d lv hlv _ hP
      obtain ⟨c0, c1, c2, c3, c4, c5, c6, c7, c8, cf⟩ := Nc.of (show wr.heap[w1.heap.size]? = some (.cells #[.int .i64 f1, .int .i64 s1, .string ⟨nm1.toArray⟩, .int .i64 tk1, .int .i64 tl1, .int .i64 n1, .int .i64 m1, .slice ka kn kc, .int .i64 a1] 28 (0, 0)) from hE)
      have hEl : w1.heap.size < wr.heap.size := World.block_lt_of_cell? wr _ c0
      cases hsg : Gram.sign T j lv with
      | none =>
        rw [hsg] at hS
        have hr : Gram.lefts T f d lv x0 j0 = .ok (.mk f1 s1 nm1 tk1 tl1 n1 m1 ks1 a1) j := by rw [← HL.out]; unfold Gram.lefts; rw [hsg]
        have HR := Lib.hid hr
        clear hr hf1
        go_wp2_with (go_at_call 114; refine hS.mono ?_; rintro e w2 ⟨rfl, hg2⟩; refine Hid.out ?_)
        have d0 := hg2.cell c0 (by simp)
        have d1 := hg2.cell c1 (by simp)
        have d2 := hg2.cell c2 (by simp)
        have d3 := hg2.cell c3 (by simp)
        have d4 := hg2.cell c4 (by simp)
        have d5 := hg2.cell c5 (by simp)
        have d6 := hg2.cell c6 (by simp)
        have d7 := hg2.cell c7 (by simp)
        have d8 := hg2.cell c8 (by simp)
        have hl2 := hg2.size
        have hne2 : ¬ w1.heap.size = w2.heap.size := by omega
        have hlt2 : w1.heap.size < w2.heap.size := by omega
        refine Lib.hid ?_
        go_wp2_with (with_reducible refine hold_st 4 ?_)
        obtain ⟨W, hW⟩ : ∃ W, W = w2.alloc (.cells #[.string ⟨#[]⟩, .int .i64 0, .int .i64 0] 125) := ⟨_, rfl⟩
        rw [← hW]
        have hg3 : wr.grownBy W none := by rw [hW]; exact galloc hg2 _
        clear hW
        refine Lib.hid ?_
        refine wpList_store_gen rfl _ _ _ rfl w.heap.size _ rfl rfl 28 _ (((hg.trans (grown_some hg3 b)).block w.heap.size (by simp) (by simp; omega)).trans (heap_alloc_new w exp0)) (by kernel_rfl) rfl (by simp [Value.oneCell']) ?_
        intro w4 hh4 hg4
        go_wp2
        (try simp only [Exit.inBlock, Exit.then])
        refine bodyPost_ret (results_cell_row rfl _ _ w.heap.size 28 _ (0, 0) _ rfl hh4 Tryz.underlying28 rfl (by kernel_rfl)) rfl ?_
        rw [HR.out]
        have hG : w.grownBy w4 (some b) := ((grown_some (World.grownBy_alloc w exp0 none) b).trans (hg.trans (grown_some hg3 b))).andThen hg4 (fun j e => .inl (by cases e; exact Nat.le_refl _))
        exact ⟨_, rfl, RepC.mono (Nat.le_succ _) (RepC.noX (RepC.kept hg4 (fun k e => by cases e; exact Nat.lt_succ_self _) (RepC.kept hg3 (fun k e => by cases e) hk))), HH.out.to hG ((hP.st.kept hg3 (by simp)).kept hg4 (by simp; omega)) hP.lt, hG⟩
      | some s =>
        rw [hsg] at hS
        have hr : Gram.lefts T f d lv x0 j0 = (Gram.read T f' d (lv + 1) (j + 1)).bind fun y k => Gram.lefts T f' d lv (Gram.join s (.mk f1 s1 nm1 tk1 tl1 n1 m1 ks1 a1) y) k := by rw [← HL.out]; conv => lhs; unfold Gram.lefts; rw [hsg]
        have hf2 := hf1
        rw [HL.out, hr] at hf2
        have HR := Lib.hid hr
        clear hr
        simp only [sPost, signV] at hS
        go_wp2_with (go_at_call 114; refine hS.mono ?_; rintro e w2 ⟨rfl, hP2, hg2⟩; refine Hid.out ?_)
        have hqb : some w1.heap.size ≠ some b := by simp; omega
        have hl2 := hg2.size
        obtain ⟨SG, hSG⟩ : ∃ SG : Obj, SG = .cells #[.string ⟨s.1.toArray⟩, .int .i64 s.2.1, .int .i64 s.2.2] 125 := ⟨_, rfl⟩
        have hsb : (w2.alloc SG).heap[w2.heap.size]? = some (.cells #[.string ⟨s.1.toArray⟩, .int .i64 s.2.1, .int .i64 s.2.2] 125 (0, 0)) := by rw [heap_alloc_new, hSG]
        have hPd : Pa ((w2.alloc SG).drew) b g cap rv T (j + 1) d := (hP2.alloc SG).kept (gdrew (World.grownBy.refl _ _))
        have hc3 : _ → Calls Tryz.prog 113 #[.pointer (some ⟨b, 0, none⟩), .int .i64 ((lv : Int) + 1)] ((w2.alloc SG).drew) fun e w' => ePost ((w2.alloc SG).drew) b g cap rv T d (Gram.read T f' d (lv + 1) (j + 1)) e w' := hR f' (by omega) d (lv + 1) (j + 1) _ (by omega) hPd
        have hgr : wr.grownBy ((w2.alloc SG).drew) (some b) := gdrew (galloc hg2 SG)
        have hgD : (w.alloc exp0).grownBy ((w2.alloc SG).drew) (some b) := hg.trans hgr
        have hS0 : ((w2.alloc SG).drew).cell? ⟨w2.heap.size, 0, none⟩ = some (.string ⟨s.1.toArray⟩) ∧ ((w2.alloc SG).drew).cell? ⟨w2.heap.size, 1, none⟩ = some (.int .i64 s.2.1) ∧ ((w2.alloc SG).drew).cell? ⟨w2.heap.size, 2, none⟩ = some (.int .i64 s.2.2) ∧ ((w2.alloc SG).drew).cell? ⟨w1.heap.size, 0, none⟩ = some (.int .i64 f1) ∧ ((w2.alloc SG).drew).cell? ⟨w1.heap.size, 1, none⟩ = some (.int .i64 s1) ∧ ((w2.alloc SG).drew).cell? ⟨w1.heap.size, 2, none⟩ = some (.string ⟨nm1.toArray⟩) ∧ ((w2.alloc SG).drew).cell? ⟨w1.heap.size, 3, none⟩ = some (.int .i64 tk1) ∧ ((w2.alloc SG).drew).cell? ⟨w1.heap.size, 4, none⟩ = some (.int .i64 tl1) ∧ ((w2.alloc SG).drew).cell? ⟨w1.heap.size, 5, none⟩ = some (.int .i64 n1) ∧ ((w2.alloc SG).drew).cell? ⟨w1.heap.size, 6, none⟩ = some (.int .i64 m1) ∧ ((w2.alloc SG).drew).cell? ⟨w1.heap.size, 7, none⟩ = some (.slice ka kn kc) ∧ ((w2.alloc SG).drew).cell? ⟨w1.heap.size, 8, none⟩ = some (.int .i64 a1) :=
          ⟨cell_of_row _ _ 0 _ _ _ hsb, cell_of_row _ _ 1 _ _ _ hsb, cell_of_row _ _ 2 _ _ _ hsb, hgr.cell c0 hqb, hgr.cell c1 hqb, hgr.cell c2 hqb, hgr.cell c3 hqb, hgr.cell c4 hqb, hgr.cell c5 hqb, hgr.cell c6 hqb, hgr.cell c7 hqb, hgr.cell c8 hqb⟩
        have hqd : some w2.heap.size ≠ some b := by have := hP2.bl; simp; omega
        have hSk : ∀ (wx wy : World), (wx.cell? ⟨w2.heap.size, 0, none⟩ = some (.string ⟨s.1.toArray⟩) ∧ wx.cell? ⟨w2.heap.size, 1, none⟩ = some (.int .i64 s.2.1) ∧ wx.cell? ⟨w2.heap.size, 2, none⟩ = some (.int .i64 s.2.2) ∧ wx.cell? ⟨w1.heap.size, 0, none⟩ = some (.int .i64 f1) ∧ wx.cell? ⟨w1.heap.size, 1, none⟩ = some (.int .i64 s1) ∧ wx.cell? ⟨w1.heap.size, 2, none⟩ = some (.string ⟨nm1.toArray⟩) ∧ wx.cell? ⟨w1.heap.size, 3, none⟩ = some (.int .i64 tk1) ∧ wx.cell? ⟨w1.heap.size, 4, none⟩ = some (.int .i64 tl1) ∧ wx.cell? ⟨w1.heap.size, 5, none⟩ = some (.int .i64 n1) ∧ wx.cell? ⟨w1.heap.size, 6, none⟩ = some (.int .i64 m1) ∧ wx.cell? ⟨w1.heap.size, 7, none⟩ = some (.slice ka kn kc) ∧ wx.cell? ⟨w1.heap.size, 8, none⟩ = some (.int .i64 a1)) → wx.grownBy wy (some b) → (wy.cell? ⟨w2.heap.size, 0, none⟩ = some (.string ⟨s.1.toArray⟩) ∧ wy.cell? ⟨w2.heap.size, 1, none⟩ = some (.int .i64 s.2.1) ∧ wy.cell? ⟨w2.heap.size, 2, none⟩ = some (.int .i64 s.2.2) ∧ wy.cell? ⟨w1.heap.size, 0, none⟩ = some (.int .i64 f1) ∧ wy.cell? ⟨w1.heap.size, 1, none⟩ = some (.int .i64 s1) ∧ wy.cell? ⟨w1.heap.size, 2, none⟩ = some (.string ⟨nm1.toArray⟩) ∧ wy.cell? ⟨w1.heap.size, 3, none⟩ = some (.int .i64 tk1) ∧ wy.cell? ⟨w1.heap.size, 4, none⟩ = some (.int .i64 tl1) ∧ wy.cell? ⟨w1.heap.size, 5, none⟩ = some (.int .i64 n1) ∧ wy.cell? ⟨w1.heap.size, 6, none⟩ = some (.int .i64 m1) ∧ wy.cell? ⟨w1.heap.size, 7, none⟩ = some (.slice ka kn kc) ∧ wy.cell? ⟨w1.heap.size, 8, none⟩ = some (.int .i64 a1)) := fun _ _ h hg => ⟨hg.cell h.1 hqd, hg.cell h.2.1 hqd, hg.cell h.2.2.1 hqd, hg.cell h.2.2.2.1 hqb, hg.cell h.2.2.2.2.1 hqb, hg.cell h.2.2.2.2.2.1 hqb, hg.cell h.2.2.2.2.2.2.1 hqb, hg.cell h.2.2.2.2.2.2.2.1 hqb, hg.cell h.2.2.2.2.2.2.2.2.1 hqb, hg.cell h.2.2.2.2.2.2.2.2.2.1 hqb, hg.cell h.2.2.2.2.2.2.2.2.2.2.1 hqb, hg.cell h.2.2.2.2.2.2.2.2.2.2.2 hqb⟩
        have HSK := Lib.hid hSk
        have HSG := Lib.hid hSG
        have HS0 := Lib.hid hS0
        clear hsb hSG hSk
        refine Lib.hid ?_
        go_wp2
        rw [← HSG.out]
        cases hr2 : Gram.read T f' d (lv + 1) (j + 1) with
        | fuel => rw [hr2] at hf2; cases hf2
        | bad a er =>
        have hc4 := hc3 (by rw [hr2]; rfl)
        rw [hr2] at hc4
        simp only [ePost] at hc4
        refine wp_region_L (S := fun w' => w'.cell? ⟨w2.heap.size, 0, none⟩ = some (.string ⟨s.1.toArray⟩) ∧ w'.cell? ⟨w2.heap.size, 1, none⟩ = some (.int .i64 s.2.1) ∧ w'.cell? ⟨w2.heap.size, 2, none⟩ = some (.int .i64 s.2.2) ∧ w'.cell? ⟨w1.heap.size, 0, none⟩ = some (.int .i64 f1) ∧ w'.cell? ⟨w1.heap.size, 1, none⟩ = some (.int .i64 s1) ∧ w'.cell? ⟨w1.heap.size, 2, none⟩ = some (.string ⟨nm1.toArray⟩) ∧ w'.cell? ⟨w1.heap.size, 3, none⟩ = some (.int .i64 tk1) ∧ w'.cell? ⟨w1.heap.size, 4, none⟩ = some (.int .i64 tl1) ∧ w'.cell? ⟨w1.heap.size, 5, none⟩ = some (.int .i64 n1) ∧ w'.cell? ⟨w1.heap.size, 6, none⟩ = some (.int .i64 m1) ∧ w'.cell? ⟨w1.heap.size, 7, none⟩ = some (.slice ka kn kc) ∧ w'.cell? ⟨w1.heap.size, 8, none⟩ = some (.int .i64 a1)) (Z := [7]) (by kernel_rfl) ?_
        refine wpL_take (i := 0) (v := .agg #[.string ⟨s.1.toArray⟩, .int .i64 s.2.1, .int .i64 s.2.2]) rfl (by kernel_rfl) (by kernel_rfl) (by kernel_rfl) (fun _ _ _ h => h) (by kernel_rfl) (.inl ⟨rfl, fun w' hw' => ?_⟩) hS0 ?_
        · obtain ⟨q0, q1, q2, q3, q4, q5, q6, q7, q8, q9, q10, q11⟩ := hw'
          go_simp
        refine wpL_take (i := 1) (v := .agg #[.int .i64 f1, .int .i64 s1, .string ⟨nm1.toArray⟩, .int .i64 tk1, .int .i64 tl1, .int .i64 n1, .int .i64 m1, .slice ka kn kc, .int .i64 a1]) rfl (by kernel_rfl) (by kernel_rfl) (by kernel_rfl) (fun _ _ _ h => h) (by kernel_rfl) (.inl ⟨rfl, fun w' hw' => ?_⟩) hS0 ?_
        · obtain ⟨q0, q1, q2, q3, q4, q5, q6, q7, q8, q9, q10, q11⟩ := hw'
          go_simp
        refine wpL_take (i := 2) (v := .pointer (some ⟨b, 0, none⟩)) rfl (by kernel_rfl) (by kernel_rfl) (by kernel_rfl) (fun _ _ _ h => h) (by kernel_rfl) (.inl ⟨rfl, fun w' hw' => ?_⟩) hS0 ?_
        · obtain ⟨q0, q1, q2, q3, q4, q5, q6, q7, q8, q9, q10, q11⟩ := hw'
          go_simp
        refine wpL_take (i := 3) (v := .int .i64 (lv : Int)) rfl (by kernel_rfl) (by kernel_rfl) (by kernel_rfl) (fun _ _ _ h => h) (by kernel_rfl) (.inl ⟨rfl, fun w' hw' => ?_⟩) hS0 ?_
        · obtain ⟨q0, q1, q2, q3, q4, q5, q6, q7, q8, q9, q10, q11⟩ := hw'
          go_simp
        refine wpL_take (i := 4) (v := .int .i64 ((lv : Int) + 1)) rfl (by kernel_rfl) (by kernel_rfl) (by kernel_rfl) (fun _ _ _ h => h) (by kernel_rfl) (.inl ⟨rfl, fun w' hw' => ?_⟩) hS0 ?_
        · obtain ⟨q0, q1, q2, q3, q4, q5, q6, q7, q8, q9, q10, q11⟩ := hw'
          go_simp
        refine wpL_one (i := 5) (by kernel_rfl) ?_
        refine wpOp_step rfl (fun K' hK => ?_)
        split
        case isFalse hno => exact absurd rfl hno
        unfold Oper.wp
        go_simp
        refine hc4.mono ?_
        rintro e w3 ⟨rfl, hg3⟩
        refine ⟨rfl, ?_⟩
        rw [HR.out, hr2]
        exact ⟨rfl, (grown_some (World.grownBy_alloc w exp0 none) b).trans (hgD.trans hg3)⟩
        | ok y m =>
        have hc4 := hc3 (by rw [hr2]; rfl)
        rw [hr2] at hc4 hf2
        cases y with
        | mk f2 s2 nm2 tk2 tl2 n2 m2 ks2 a2 =>
        simp only [ePost, expV] at hc4
        have hsD := hgD.size
        rw [World.size_alloc] at hsD
        refine wp_region_L (S := fun w' => w'.cell? ⟨w2.heap.size, 0, none⟩ = some (.string ⟨s.1.toArray⟩) ∧ w'.cell? ⟨w2.heap.size, 1, none⟩ = some (.int .i64 s.2.1) ∧ w'.cell? ⟨w2.heap.size, 2, none⟩ = some (.int .i64 s.2.2) ∧ w'.cell? ⟨w1.heap.size, 0, none⟩ = some (.int .i64 f1) ∧ w'.cell? ⟨w1.heap.size, 1, none⟩ = some (.int .i64 s1) ∧ w'.cell? ⟨w1.heap.size, 2, none⟩ = some (.string ⟨nm1.toArray⟩) ∧ w'.cell? ⟨w1.heap.size, 3, none⟩ = some (.int .i64 tk1) ∧ w'.cell? ⟨w1.heap.size, 4, none⟩ = some (.int .i64 tl1) ∧ w'.cell? ⟨w1.heap.size, 5, none⟩ = some (.int .i64 n1) ∧ w'.cell? ⟨w1.heap.size, 6, none⟩ = some (.int .i64 m1) ∧ w'.cell? ⟨w1.heap.size, 7, none⟩ = some (.slice ka kn kc) ∧ w'.cell? ⟨w1.heap.size, 8, none⟩ = some (.int .i64 a1)) (Z := [7]) (by kernel_rfl) ?_
        refine wpL_take (i := 0) (v := .agg #[.string ⟨s.1.toArray⟩, .int .i64 s.2.1, .int .i64 s.2.2]) rfl (by kernel_rfl) (by kernel_rfl) (by kernel_rfl) (fun _ _ _ h => h) (by kernel_rfl) (.inl ⟨rfl, fun w' hw' => ?_⟩) hS0 ?_
        · obtain ⟨q0, q1, q2, q3, q4, q5, q6, q7, q8, q9, q10, q11⟩ := hw'
          go_simp
        refine wpL_take (i := 1) (v := .agg #[.int .i64 f1, .int .i64 s1, .string ⟨nm1.toArray⟩, .int .i64 tk1, .int .i64 tl1, .int .i64 n1, .int .i64 m1, .slice ka kn kc, .int .i64 a1]) rfl (by kernel_rfl) (by kernel_rfl) (by kernel_rfl) (fun _ _ _ h => h) (by kernel_rfl) (.inl ⟨rfl, fun w' hw' => ?_⟩) hS0 ?_
        · obtain ⟨q0, q1, q2, q3, q4, q5, q6, q7, q8, q9, q10, q11⟩ := hw'
          go_simp
        refine wpL_take (i := 2) (v := .pointer (some ⟨b, 0, none⟩)) rfl (by kernel_rfl) (by kernel_rfl) (by kernel_rfl) (fun _ _ _ h => h) (by kernel_rfl) (.inl ⟨rfl, fun w' hw' => ?_⟩) hS0 ?_
        · obtain ⟨q0, q1, q2, q3, q4, q5, q6, q7, q8, q9, q10, q11⟩ := hw'
          go_simp
        refine wpL_take (i := 3) (v := .int .i64 (lv : Int)) rfl (by kernel_rfl) (by kernel_rfl) (by kernel_rfl) (fun _ _ _ h => h) (by kernel_rfl) (.inl ⟨rfl, fun w' hw' => ?_⟩) hS0 ?_
        · obtain ⟨q0, q1, q2, q3, q4, q5, q6, q7, q8, q9, q10, q11⟩ := hw'
          go_simp
        refine wpL_take (i := 4) (v := .int .i64 ((lv : Int) + 1)) rfl (by kernel_rfl) (by kernel_rfl) (by kernel_rfl) (fun _ _ _ h => h) (by kernel_rfl) (.inl ⟨rfl, fun w' hw' => ?_⟩) hS0 ?_
        · obtain ⟨q0, q1, q2, q3, q4, q5, q6, q7, q8, q9, q10, q11⟩ := hw'
          go_simp
        refine wpL_one (i := 5) (by kernel_rfl) ?_
        refine wpOp_step rfl (fun K' hK => ?_)
        split
        case isFalse hno => exact absurd rfl hno
        unfold Oper.wp
        go_simp
        refine hc4.mono ?_
        rintro e w3 ⟨k3, rfl, hk3, hP3, hg3⟩
        obtain ⟨kb, kn2, kc2, rfl⟩ := hk3.form
        have hS3 := HSK.out _ _ hS0 hg3
        refine hK _ _ ⟨fun _ => hS3, ?_⟩
        clear hK K' hc4 hc3
        have hJ : Calls Tryz.prog 115 #[.agg #[.string ⟨s.1.toArray⟩, .int .i64 s.2.1, .int .i64 s.2.2], .agg #[.int .i64 f1, .int .i64 s1, .string ⟨nm1.toArray⟩, .int .i64 tk1, .int .i64 tl1, .int .i64 n1, .int .i64 m1, .slice ka kn kc, .int .i64 a1], .agg #[.int .i64 f2, .int .i64 s2, .string ⟨nm2.toArray⟩, .int .i64 tk2, .int .i64 tl2, .int .i64 n2, .int .i64 m2, .slice kb kn2 kc2, .int .i64 a2]] w3 fun e w' => (∃ v, e = .returned (expV (Gram.join s (.mk f1 s1 nm1 tk1 tl1 n1 m1 ks1 a1) (.mk f2 s2 nm2 tk2 tl2 n2 m2 ks2 a2)) v) ∧ KidsX w' (w.heap.size + 1) [w1.heap.size] [.mk f1 s1 nm1 tk1 tl1 n1 m1 ks1 a1, .mk f2 s2 nm2 tk2 tl2 n2 m2 ks2 a2] v) ∧ w3.grownBy w' none :=
          gjoinX_any s (.mk f1 s1 nm1 tk1 tl1 n1 m1 ks1 a1) (.mk f2 s2 nm2 tk2 tl2 n2 m2 ks2 a2) _ _ (w.heap.size + 1) [w1.heap.size] w3 (by have := hg3.size; omega) (fun k e => by obtain rfl := List.mem_singleton.1 e; have := hg3.size; have := hgr.size; omega)
            (RepC.kept hg3 (fun k e => by cases e; omega) (RepC.kept hgr (fun k e => by cases e; omega) hk)) (RepC.mono (by omega) (RepC.toX [w1.heap.size] (fun k e => by obtain rfl := List.mem_singleton.1 e; exact .inr (by have := hgr.size; omega)) hk3))
        simp only [Gram.join, expV, Gram.Exp.at_] at hJ
        refine wpL_one (i := 6) (by kernel_rfl) ?_
        refine wpOp_step rfl (fun K' hK => ?_)
        split
        case isFalse hno => exact absurd rfl hno
        unfold Oper.wp
        go_simp
        refine hJ.mono ?_
        rintro e w4 ⟨⟨v4, rfl, hk4⟩, hg4⟩
        obtain ⟨va, vn, vc, rfl⟩ := KidsX.form hk4
        have hS4 := HSK.out _ _ hS3 (grown_some hg4 b)
        refine hK _ _ ⟨fun _ => hS4, ?_⟩
        clear hK K'
        have hgr4 : wr.grownBy w4 (some b) := (hgr.trans hg3).trans (grown_some hg4 b)
        have hE4 : w4.heap[w1.heap.size]? = some (.cells #[.int .i64 f1, .int .i64 s1, .string ⟨nm1.toArray⟩, .int .i64 tk1, .int .i64 tl1, .int .i64 n1, .int .i64 m1, .slice ka kn kc, .int .i64 a1] 28 (0, 0)) := (hgr4.block w1.heap.size hEl hqb).trans hE
        obtain ⟨z0, z1, z2, z3, z4, z5, z6, z7, z8, zf⟩ := Nc.of hE4
        refine wpL_one (i := 7) (by kernel_rfl) ?_
        refine wpOp_step rfl (fun K' hK => ?_)
        split
        case isFalse hno => exact absurd rfl hno
        unfold Oper.wp
        go_simp
        refine hK _ _ ⟨fun hno => absurd (by simp) hno, ?_⟩
        clear hK K'
        refine wpL_done (by kernel_rfl) ?_ _
        have hN : Nn w4 w1.heap.size := ⟨_, _, _, _, _, _, _, _, _, hE4⟩
        go_wp2
        go_roundg f'
        case measure => exact Nat.lt_succ_self _
        case rel =>
        have hgA : (w.alloc exp0).grownBy w4 (some b) := hg.trans hgr4
        have hG5 := fun v0 v1 v2 v3 v4 v5 v6 v7 v8 => gset9 (g := w1.heap.size) (v0 := v0) (v1 := v1) (v2 := v2) (v3 := v3) (v4 := v4) (v5 := v5) (v6 := v6) (v7 := v7) (v8 := v8) ((grown_some (World.grownBy_alloc w exp0 none) b).trans hgA) (.inl (by omega))
        refine ⟨Gram.join s (.mk f1 s1 nm1 tk1 tl1 n1 m1 ks1 a1) (.mk f2 s2 nm2 tk2 tl2 n2 m2 ks2 a2), m, va, vn, vc, by omega, Lib.hid ⟨stored9 hN, RepC.keptX (grown9 _ _ _ _ _ _ _ _ _ _ _) (fun k e => .inr (by cases e; simp)) hk4, HH.out.to (hG5 _ _ _ _ _ _ _ _ _) ((hP3.st.kept (grown_some hg4 w1.heap.size) (by simp; omega)).kept (grown9 _ _ _ _ _ _ _ _ _ _ _) (by simp; omega)) hP3.lt, gset9 hgA (.inl (by simp; omega)), by rw [HR.out, hr2]; rfl⟩⟩
end

end Go.Proofs.YtachmiajldeakaaGreatDoor

/- gram's indices. -/
namespace Go.Proofs.YtachmiajldeakaaGreatDoor
open Go.RowKit Go.Maps Go.WideMaps

/-- two may come up -/
theorem wpL_two {P : Program} {ops : Array Oper} {Q : Exit → Act → World → Prop} {md : Region.Mode} {S : World → Prop} {Z : List Nat} {i j f : Nat} {l : Array Bool} {a : Act} {w : World} (hr : Region.ready md ops l = [i, j])
    (h1 : wpOp P ops Q i (fun a' w' => (i ∉ Z → S w') ∧ wpL P md ops Q S Z f (l.setIfInBounds i true) a' w') a w)
    (h2 : wpOp P ops Q j (fun a' w' => (j ∉ Z → S w') ∧ wpL P md ops Q S Z f (l.setIfInBounds j true) a' w') a w) : wpL P md ops Q S Z (f + 1) l a w :=
  ⟨fun h0 => (by rw [hr] at h0; exact absurd h0 (by simp)), fun k hk => (by
    rw [hr] at hk
    rcases List.mem_cons.1 hk with rfl | hk
    · exact h1
    · obtain rfl := List.mem_singleton.1 hk; exact h2)⟩

/-- what reads on behind an expression does: its parts lie in blocks from B on -/
def ePostB (w : World) (B b g cap : Nat) (rv : Value) (T : List Lex.Tk) (d : Nat) (r : Gram.PR Gram.Exp) (e : Ending) (w' : World) : Prop :=
  match r with
  | .ok x i => ∃ k, e = .returned (expV x k) ∧ Kids w' B x.kids k ∧ Pa w' b g cap rv T i d ∧ w.grownBy w' (some b)
  | .bad a er => gBad w b a er e w'
  | .fuel => False

theorem KidsX.one {w : World} {B : Nat} {E : List Nat} {x : Gram.Exp} {k v : Value} (ho : w.ownsRow B 28 9 v 1 (expCells x k)) (hE : ∀ k ∈ E, v.ownBlock ≠ some k) (h : KidsX w B E x.kids k) : KidsX w B E [x] v := by
  refine .l (xs := expCells x k) (by simpa [expsD] using ho) hE ?_
  simpa [expsD] using exp_row h

section
variable (b g cap : Nat) (rv : Value) (T : List Lex.Tk)

set_option maxHeartbeats 3200000 in
set_option maxRecDepth 20000 in
theorem gindexed_any (f d i B : Nat) (x0 : Gram.Exp) (k0 : Value) (w : World) (hB : B ≤ w.heap.size) (hbB : b < B) (h : Pa w b g cap rv T i d) (hk0 : Kids w B x0.kids k0) (hf : (Gram.indexed T f x0 i).isFuel = false) :
    Calls Tryz.prog 118 #[.pointer (some ⟨b, 0, none⟩), expV x0 k0] w fun e w' => ePostB w B b g cap rv T d (Gram.indexed T f x0 i) e w' := by
  have hbw := h.bl
  obtain ⟨la, ln, lc, rfl⟩ := hk0.form
  have HH := Lib.hid h
  have HK0 := Lib.hid hk0
  clear h hk0
  cases hx : x0 with
  | mk g1 u1 om1 vk1 vl1 o1 p1 us1 c1 =>
  have HX := Lib.hid hx
  simp only [expV]
  clear hx
  rw [← HX.out]
  go_enter Tryz.func118, Tryz.ntmps118
  go_wp2
  go_loopg [] f (fun (f' : Nat) (wr : World) => ∃ (x : Gram.Exp) (j : Nat) (ka : Option Addr) (kn kc : Nat), f' ≤ f ∧ Hid (wr.heap[w.heap.size]? = some (.cells (expCells x (.slice ka kn kc)).toArray 28 (0, 0)) ∧ wr.heap[w.heap.size + 1]? = some exp0 ∧ KidsX wr B [w.heap.size, w.heap.size + 1] x.kids (.slice ka kn kc) ∧ Pa wr b g cap rv T j d ∧ w.grownBy wr (some b) ∧ Gram.indexed T f' x j = Gram.indexed T f x0 i))
  case atStart =>
    refine ⟨x0, i, la, ln, lc, Nat.le_refl _, Lib.hid ⟨?_, heap_alloc2_new w _ _, ?_, (HH.out.alloc _).alloc _, galloc (World.grownBy_alloc w _ (some b)) _, rfl⟩⟩
    · rw [HX.out]; exact heap_alloc2_old w _ _
    · exact RepC.kept (galloc (World.grownBy_alloc w _ none) _) (fun k e => by cases e) (RepC.toX [w.heap.size, w.heap.size + 1] (fun k e => by simp at e; omega) HK0.out)
  case round =>
    obtain ⟨x, j, ka, kn, kc, hff, HG⟩ := hrel
    obtain ⟨hE, hE1, hk, hP, hg, hL⟩ := HG.out
    rw [← hL] at hf
    have HL := Lib.hid hL
    clear HG hL
    cases x with
    | mk f1 s1 nm1 tk1 tl1 n1 m1 ks1 a1 =>
    rcases Nat.eq_zero_or_pos gk with hz | hz
    · rw [hz] at hf; exact absurd hf (by simp [Gram.indexed, Gram.PR.isFuel])
    obtain ⟨f', hfe⟩ : ∃ f', gk = f' + 1 := ⟨gk - 1, by omega⟩
    subst hfe
    obtain ⟨c0, c1', c2, c3, c4, c5, c6, c7, c8, cf⟩ := Nc.of (show wr.heap[w.heap.size]? = some (.cells #[.int .i64 f1, .int .i64 s1, .string ⟨nm1.toArray⟩, .int .i64 tk1, .int .i64 tl1, .int .i64 n1, .int .i64 m1, .slice ka kn kc, .int .i64 a1] 28 (0, 0)) from hE)
    have hEl : w.heap.size + 1 < wr.heap.size := (Array.getElem?_eq_some_iff.1 hE1).1
    rcases Bool.eq_false_or_eq_true (Gram.sees T j [91]) with hsx | hsx
    · have hi1 := hP.nextSees hsx (by decide)
      have hA := gaccept_yes b g cap rv T j d ⟨#[91]⟩ wr hP hsx hi1
      have hr : Gram.indexed T f x0 i = (Gram.size T (j + 1)).bind fun n k => (Gram.expect T k [93]).bind fun _ m => Gram.indexed T f' (.mk 16 0 [] 0 0 n 0 [.mk f1 s1 nm1 tk1 tl1 n1 m1 ks1 a1] a1) m := by rw [← HL.out]; conv => lhs; unfold Gram.indexed; rw [if_pos hsx]; simp only [Gram.Exp.at_]
      have hf2 := hf
      rw [HL.out, hr] at hf2
      have HR := Lib.hid hr
      clear hr hf
      go_wp2_with (go_at_call 123; refine hA.mono ?_; rintro e w2 ⟨rfl, hP2, hg2⟩; refine Hid.out ?_)
      have hqb : some w.heap.size ≠ some b := by simp; omega
      have hl2 := hg2.size
      have hPd : Pa w2.drew b g cap rv T (j + 1) d := hP2.kept (gdrew (World.grownBy.refl _ _))
      have hgr : wr.grownBy w2.drew (some b) := gdrew hg2
      have hgD : w.grownBy w2.drew (some b) := hg.trans hgr
      have hS0 : w2.drew.cell? ⟨w.heap.size, 0, none⟩ = some (.int .i64 f1) ∧ w2.drew.cell? ⟨w.heap.size, 1, none⟩ = some (.int .i64 s1) ∧ w2.drew.cell? ⟨w.heap.size, 2, none⟩ = some (.string ⟨nm1.toArray⟩) ∧ w2.drew.cell? ⟨w.heap.size, 3, none⟩ = some (.int .i64 tk1) ∧ w2.drew.cell? ⟨w.heap.size, 4, none⟩ = some (.int .i64 tl1) ∧ w2.drew.cell? ⟨w.heap.size, 5, none⟩ = some (.int .i64 n1) ∧ w2.drew.cell? ⟨w.heap.size, 6, none⟩ = some (.int .i64 m1) ∧ w2.drew.cell? ⟨w.heap.size, 7, none⟩ = some (.slice ka kn kc) ∧ w2.drew.cell? ⟨w.heap.size, 8, none⟩ = some (.int .i64 a1) := ⟨hgr.cell c0 hqb, hgr.cell c1' hqb, hgr.cell c2 hqb, hgr.cell c3 hqb, hgr.cell c4 hqb, hgr.cell c5 hqb, hgr.cell c6 hqb, hgr.cell c7 hqb, hgr.cell c8 hqb⟩
      have hSk : ∀ (wx wy : World), (wx.cell? ⟨w.heap.size, 0, none⟩ = some (.int .i64 f1) ∧ wx.cell? ⟨w.heap.size, 1, none⟩ = some (.int .i64 s1) ∧ wx.cell? ⟨w.heap.size, 2, none⟩ = some (.string ⟨nm1.toArray⟩) ∧ wx.cell? ⟨w.heap.size, 3, none⟩ = some (.int .i64 tk1) ∧ wx.cell? ⟨w.heap.size, 4, none⟩ = some (.int .i64 tl1) ∧ wx.cell? ⟨w.heap.size, 5, none⟩ = some (.int .i64 n1) ∧ wx.cell? ⟨w.heap.size, 6, none⟩ = some (.int .i64 m1) ∧ wx.cell? ⟨w.heap.size, 7, none⟩ = some (.slice ka kn kc) ∧ wx.cell? ⟨w.heap.size, 8, none⟩ = some (.int .i64 a1)) → wx.grownBy wy (some b) → (wy.cell? ⟨w.heap.size, 0, none⟩ = some (.int .i64 f1) ∧ wy.cell? ⟨w.heap.size, 1, none⟩ = some (.int .i64 s1) ∧ wy.cell? ⟨w.heap.size, 2, none⟩ = some (.string ⟨nm1.toArray⟩) ∧ wy.cell? ⟨w.heap.size, 3, none⟩ = some (.int .i64 tk1) ∧ wy.cell? ⟨w.heap.size, 4, none⟩ = some (.int .i64 tl1) ∧ wy.cell? ⟨w.heap.size, 5, none⟩ = some (.int .i64 n1) ∧ wy.cell? ⟨w.heap.size, 6, none⟩ = some (.int .i64 m1) ∧ wy.cell? ⟨w.heap.size, 7, none⟩ = some (.slice ka kn kc) ∧ wy.cell? ⟨w.heap.size, 8, none⟩ = some (.int .i64 a1)) := fun _ _ ⟨p0, p1, p2, p3, p4, p5, p6, p7, p8⟩ hg => ⟨hg.cell p0 hqb, hg.cell p1 hqb, hg.cell p2 hqb, hg.cell p3 hqb, hg.cell p4 hqb, hg.cell p5 hqb, hg.cell p6 hqb, hg.cell p7 hqb, hg.cell p8 hqb⟩
      have HSK := Lib.hid hSk
      clear hSk
      refine Lib.hid ?_
      go_wp2
      rcases Bool.eq_false_or_eq_true (Gram.isNum T (j + 1) && ((Gram.tk T (j + 1)).t == 0)) with hz1 | hz1
      · have hzy := fun wx (hx : w2.drew.grownBy wx none) => gsize_yes b g cap rv T (j + 1) d wx (hPd.kept hx) hz1
        have hsz : Gram.size T (j + 1) = .ok (Gram.tk T (j + 1)).n (j + 1 + 1) := by unfold Gram.size Gram.need; rw [if_pos hz1]
        have HR2 : Gram.indexed T f x0 i = (Gram.expect T (j + 1 + 1) [93]).bind fun _ m => Gram.indexed T f' (.mk 16 0 [] 0 0 (Gram.tk T (j + 1)).n 0 [(.mk f1 s1 nm1 tk1 tl1 n1 m1 ks1 a1)] a1) m := by rw [HR.out, hsz]; rfl
        refine wp_region_L (S := fun w' => w'.cell? ⟨w.heap.size, 0, none⟩ = some (.int .i64 f1) ∧ w'.cell? ⟨w.heap.size, 1, none⟩ = some (.int .i64 s1) ∧ w'.cell? ⟨w.heap.size, 2, none⟩ = some (.string ⟨nm1.toArray⟩) ∧ w'.cell? ⟨w.heap.size, 3, none⟩ = some (.int .i64 tk1) ∧ w'.cell? ⟨w.heap.size, 4, none⟩ = some (.int .i64 tl1) ∧ w'.cell? ⟨w.heap.size, 5, none⟩ = some (.int .i64 n1) ∧ w'.cell? ⟨w.heap.size, 6, none⟩ = some (.int .i64 m1) ∧ w'.cell? ⟨w.heap.size, 7, none⟩ = some (.slice ka kn kc) ∧ w'.cell? ⟨w.heap.size, 8, none⟩ = some (.int .i64 a1)) (Z := [7]) (by kernel_rfl) ?_
        refine wpL_take (i := 0) (v := .pointer (some ⟨b, 0, none⟩)) rfl (by kernel_rfl) (by kernel_rfl) (by kernel_rfl) (fun _ _ _ h => h) (by kernel_rfl) (.inl ⟨rfl, fun w' hw' => ?_⟩) hS0 ?_
        · obtain ⟨q0, q1, q2, q3, q4, q5, q6, q7, q8⟩ := hw'
          go_simp
        refine wpL_take (i := 2) (v := .agg #[.int .i64 f1, .int .i64 s1, .string ⟨nm1.toArray⟩, .int .i64 tk1, .int .i64 tl1, .int .i64 n1, .int .i64 m1, .slice ka kn kc, .int .i64 a1]) rfl (by kernel_rfl) (by kernel_rfl) (by kernel_rfl) (fun _ _ _ h => h) (by kernel_rfl) (.inl ⟨rfl, fun w' hw' => ?_⟩) hS0 ?_
        · obtain ⟨q0, q1, q2, q3, q4, q5, q6, q7, q8⟩ := hw'
          go_simp
        refine wpL_take (i := 4) (v := .pointer (some ⟨w.heap.size, 8, none⟩)) rfl (by kernel_rfl) (by kernel_rfl) (by kernel_rfl) (fun _ _ _ h => h) (by kernel_rfl) (.inl ⟨rfl, fun w' hw' => ?_⟩) hS0 ?_
        · obtain ⟨q0, q1, q2, q3, q4, q5, q6, q7, q8⟩ := hw'
          go_simp
        refine wpL_take (i := 5) (v := .int .i64 a1) rfl (by kernel_rfl) (by kernel_rfl) (by kernel_rfl) (fun _ _ _ h => h) (by kernel_rfl) (.inl ⟨rfl, fun w' hw' => ?_⟩) hS0 ?_
        · obtain ⟨q0, q1, q2, q3, q4, q5, q6, q7, q8⟩ := hw'
          go_simp
        refine wpL_two (i := 1) (j := 3) (by kernel_rfl) ?_ ?_
        · refine wpOp_step rfl (fun K' hK => ?_)
          split
          case isFalse hno => exact absurd rfl hno
          unfold Oper.wp
          go_simp
          refine (hzy _ (World.grownBy.refl _ _)).mono ?_
          rintro e w3 ⟨rfl, hP3, hg3⟩
          have hs3 := hg3.size
          have hs2 : w2.drew.heap.size = w2.heap.size := rfl
          have hS3 := HSK.out _ _ hS0 hg3
          refine hK _ _ ⟨fun _ => hS3, ?_⟩
          clear hK K'
          refine wpL_one (i := 3) (by kernel_rfl) ?_
          refine wpOp_step rfl (fun K' hK => ?_)
          split
          case isFalse hno => exact absurd rfl hno
          unfold Oper.wp
          go_simp
          refine hK _ _ ⟨fun _ => HSK.out _ _ hS3 (World.grownBy_alloc w3 _ (some b)), ?_⟩
          clear hK K'
          have hBq : B ≤ w3.heap.size := by omega
          obtain ⟨w5, hw5⟩ : ∃ W, W = w3.alloc (.cells #[.int .i64 f1, .int .i64 s1, .string ⟨nm1.toArray⟩, .int .i64 tk1, .int .i64 tl1, .int .i64 n1, .int .i64 m1, .slice ka kn kc, .int .i64 a1] 28) := ⟨_, rfl⟩
          rw [← hw5]
          have hga : w3.grownBy w5 none := by rw [hw5]; exact World.grownBy_alloc w3 _ _
          have hoa : w5.ownsRow B 28 9 (.slice (some ⟨w3.heap.size, 0, none⟩) 1 1) 1 (expCells (.mk f1 s1 nm1 tk1 tl1 n1 m1 ks1 a1) (.slice ka kn kc)) := by rw [hw5]; exact owns_new (w := w3) 28 9 1 (expCells (.mk f1 s1 nm1 tk1 tl1 n1 m1 ks1 a1) (.slice ka kn kc)) hBq rfl (by unfold maxLen; omega)
          clear hw5
          have ho5 := hoa
          have hS5 := HSK.out _ _ hS3 (grown_some hga b)
          have hs5 := hga.size
          have hgA : wr.grownBy w5 (some b) := (hgr.trans hg3).trans (grown_some hga b)
          have hP5 := hP3.kept hga
          have hKx : KidsX w5 B [w.heap.size, w.heap.size + 1] [(.mk f1 s1 nm1 tk1 tl1 n1 m1 ks1 a1)] (.slice (some ⟨w3.heap.size, 0, none⟩) 1 1) := KidsX.one ho5 (fun k e hv => by simp [Value.ownBlock] at hv e; omega) (RepC.kept hgA (fun k e => by cases e; exact hbB) hk)
          have hE5 : w5.heap[w.heap.size]? = some (.cells #[.int .i64 f1, .int .i64 s1, .string ⟨nm1.toArray⟩, .int .i64 tk1, .int .i64 tl1, .int .i64 n1, .int .i64 m1, .slice ka kn kc, .int .i64 a1] 28 (0, 0)) := (hgA.block w.heap.size (by omega) hqb).trans hE
          obtain ⟨z0, z1, z2, z3, z4, z5, z6, z7, z8, zf⟩ := Nc.of hE5
          refine wpL_one (i := 6) (by kernel_rfl) ?_
          refine wpOp_step rfl (fun K' hK => ?_)
          split
          case isFalse hno => exact absurd rfl hno
          unfold Oper.wp
          go_simp
          refine hK _ _ ⟨fun _ => hS5, ?_⟩
          clear hK K'
          refine wpL_one (i := 7) (by kernel_rfl) ?_
          refine wpOp_step rfl (fun K' hK => ?_)
          split
          case isFalse hno => exact absurd rfl hno
          unfold Oper.wp
          go_simp
          refine hK _ _ ⟨fun hno => absurd (by simp) hno, ?_⟩
          clear hK K'
          refine wpL_done (by kernel_rfl) ?_ _
          have hN : Nn w5 w.heap.size := ⟨_, _, _, _, _, _, _, _, _, hE5⟩
          have hG9 := fun v0 v1 v2 v3 v4 v5 v6 v7 v8 => gset9 (g := w.heap.size) (v0 := v0) (v1 := v1) (v2 := v2) (v3 := v3) (v4 := v4) (v5 := v5) (v6 := v6) (v7 := v7) (v8 := v8) (hg.trans hgA) (.inl (Nat.le_refl _))
          have hP9 := fun v0 v1 v2 v3 v4 v5 v6 v7 v8 => HH.out.to (hG9 v0 v1 v2 v3 v4 v5 v6 v7 v8) (hP5.st.kept (grown9 _ _ _ _ _ _ _ _ _ _ _) (by simp; omega)) hP5.lt
          rcases Bool.eq_false_or_eq_true (Gram.sees T (j + 1 + 1) [93]) with hx3 | hx3
          · have hi3 := hP5.nextSees hx3 (by decide)
            have hX := fun v0 v1 v2 v3 v4 v5 v6 v7 v8 => gexpect_yes b g cap rv T (j + 1 + 1) d ⟨#[93]⟩ _ (hP9 v0 v1 v2 v3 v4 v5 v6 v7 v8) hx3 hi3
            have hex : Gram.expect T (j + 1 + 1) [93] = .ok (Gram.tk T (j + 1 + 1)) (j + 1 + 1 + 1) := by unfold Gram.expect Gram.need; rw [if_pos hx3]
            go_wp2_with (go_at_call 77; refine (hX _ _ _ _ _ _ _ _ _).mono ?_; rintro e w6 ⟨rfl, hP6, hg6⟩)
            go_roundg f'
            case measure => exact Nat.lt_succ_self _
            case rel =>
            refine ⟨.mk 16 0 [] 0 0 (Gram.tk T (j + 1)).n 0 [(.mk f1 s1 nm1 tk1 tl1 n1 m1 ks1 a1)] a1, j + 1 + 1 + 1, some ⟨w3.heap.size, 0, none⟩, 1, 1, by omega, Lib.hid ⟨?_, ?_, ?_, hP6, (hG9 _ _ _ _ _ _ _ _ _).trans hg6, by rw [HR2, hex]; rfl⟩⟩
            · exact (hg6.block w.heap.size (by simp; omega) hqb).trans (stored9 hN)
            · exact (hg6.block (w.heap.size + 1) (by simp; omega) (by simp; omega)).trans (((grown9 _ _ _ _ _ _ _ _ _ _ _).block (w.heap.size + 1) (by omega) (by simp)).trans ((hgA.block (w.heap.size + 1) hEl (by simp; omega)).trans hE1))
            · exact RepC.kept hg6 (fun k e => by cases e; exact hbB) (RepC.keptX (grown9 _ _ _ _ _ _ _ _ _ _ _) (fun k e => .inr (by cases e; simp)) hKx)
          · have hX := fun v0 v1 v2 v3 v4 v5 v6 v7 v8 => gexpect_no b g cap rv T (j + 1 + 1) d ⟨#[93]⟩ _ (hP9 v0 v1 v2 v3 v4 v5 v6 v7 v8) hx3
            have hex : Gram.expect T (j + 1 + 1) [93] = .bad ((Gram.tk T (j + 1 + 1)).at_ : Int) 12 := by unfold Gram.expect Gram.need Gram.fail; rw [if_neg (by rw [hx3]; decide)]
            go_wp2_with (go_at_call 77; refine (hX _ _ _ _ _ _ _ _ _).mono ?_; rintro e w6 ⟨rfl, hg6⟩)
            refine ⟨rfl, ?_⟩
            rw [HR2, hex]
            exact ⟨rfl, (hG9 _ _ _ _ _ _ _ _ _).trans hg6⟩
        · refine wpOp_step rfl (fun K' hK => ?_)
          split
          case isFalse hno => exact absurd rfl hno
          unfold Oper.wp
          go_simp
          refine hK _ _ ⟨fun _ => HSK.out _ _ hS0 (World.grownBy_alloc w2.drew _ (some b)), ?_⟩
          clear hK K'
          have hs2 : w2.drew.heap.size = w2.heap.size := rfl
          have hBq : B ≤ w2.drew.heap.size := by omega
          obtain ⟨w3, hw3⟩ : ∃ W, W = (w2.alloc (.cells #[.int .i64 f1, .int .i64 s1, .string ⟨nm1.toArray⟩, .int .i64 tk1, .int .i64 tl1, .int .i64 n1, .int .i64 m1, .slice ka kn kc, .int .i64 a1] 28)).drew := ⟨_, rfl⟩
          rw [← hw3]
          have hga : w2.drew.grownBy w3 none := by rw [hw3]; exact World.grownBy_alloc w2.drew _ _
          have hoa : w3.ownsRow B 28 9 (.slice (some ⟨w2.heap.size, 0, none⟩) 1 1) 1 (expCells (.mk f1 s1 nm1 tk1 tl1 n1 m1 ks1 a1) (.slice ka kn kc)) := by rw [hw3]; exact owns_new (w := w2.drew) 28 9 1 (expCells (.mk f1 s1 nm1 tk1 tl1 n1 m1 ks1 a1) (.slice ka kn kc)) hBq rfl (by unfold maxLen; omega)
          clear hw3
          have hs3 := hga.size
          have hS3 := HSK.out _ _ hS0 (grown_some hga b)
          refine wpL_one (i := 1) (by kernel_rfl) ?_
          refine wpOp_step rfl (fun K' hK => ?_)
          split
          case isFalse hno => exact absurd rfl hno
          unfold Oper.wp
          go_simp
          refine (hzy _ hga).mono ?_
          rintro e w5 ⟨rfl, hP5, hg5⟩
          have hS5 := HSK.out _ _ hS3 hg5
          refine hK _ _ ⟨fun _ => hS5, ?_⟩
          clear hK K'
          have hs5 := hg5.size
          have hgA : wr.grownBy w5 (some b) := (hgr.trans (grown_some hga b)).trans hg5
          have ho5 := hoa.kept hg5 (.inr (by simp [Value.ownBlock]; omega))
          have hKx : KidsX w5 B [w.heap.size, w.heap.size + 1] [(.mk f1 s1 nm1 tk1 tl1 n1 m1 ks1 a1)] (.slice (some ⟨w2.heap.size, 0, none⟩) 1 1) := KidsX.one ho5 (fun k e hv => by simp [Value.ownBlock] at hv e; omega) (RepC.kept hgA (fun k e => by cases e; exact hbB) hk)
          have hE5 : w5.heap[w.heap.size]? = some (.cells #[.int .i64 f1, .int .i64 s1, .string ⟨nm1.toArray⟩, .int .i64 tk1, .int .i64 tl1, .int .i64 n1, .int .i64 m1, .slice ka kn kc, .int .i64 a1] 28 (0, 0)) := (hgA.block w.heap.size (by omega) hqb).trans hE
          obtain ⟨z0, z1, z2, z3, z4, z5, z6, z7, z8, zf⟩ := Nc.of hE5
          refine wpL_one (i := 6) (by kernel_rfl) ?_
          refine wpOp_step rfl (fun K' hK => ?_)
          split
          case isFalse hno => exact absurd rfl hno
          unfold Oper.wp
          go_simp
          refine hK _ _ ⟨fun _ => hS5, ?_⟩
          clear hK K'
          refine wpL_one (i := 7) (by kernel_rfl) ?_
          refine wpOp_step rfl (fun K' hK => ?_)
          split
          case isFalse hno => exact absurd rfl hno
          unfold Oper.wp
          go_simp
          refine hK _ _ ⟨fun hno => absurd (by simp) hno, ?_⟩
          clear hK K'
          refine wpL_done (by kernel_rfl) ?_ _
          have hN : Nn w5 w.heap.size := ⟨_, _, _, _, _, _, _, _, _, hE5⟩
          have hG9 := fun v0 v1 v2 v3 v4 v5 v6 v7 v8 => gset9 (g := w.heap.size) (v0 := v0) (v1 := v1) (v2 := v2) (v3 := v3) (v4 := v4) (v5 := v5) (v6 := v6) (v7 := v7) (v8 := v8) (hg.trans hgA) (.inl (Nat.le_refl _))
          have hP9 := fun v0 v1 v2 v3 v4 v5 v6 v7 v8 => HH.out.to (hG9 v0 v1 v2 v3 v4 v5 v6 v7 v8) (hP5.st.kept (grown9 _ _ _ _ _ _ _ _ _ _ _) (by simp; omega)) hP5.lt
          rcases Bool.eq_false_or_eq_true (Gram.sees T (j + 1 + 1) [93]) with hx3 | hx3
          · have hi3 := hP5.nextSees hx3 (by decide)
            have hX := fun v0 v1 v2 v3 v4 v5 v6 v7 v8 => gexpect_yes b g cap rv T (j + 1 + 1) d ⟨#[93]⟩ _ (hP9 v0 v1 v2 v3 v4 v5 v6 v7 v8) hx3 hi3
            have hex : Gram.expect T (j + 1 + 1) [93] = .ok (Gram.tk T (j + 1 + 1)) (j + 1 + 1 + 1) := by unfold Gram.expect Gram.need; rw [if_pos hx3]
            go_wp2_with (go_at_call 77; refine (hX _ _ _ _ _ _ _ _ _).mono ?_; rintro e w6 ⟨rfl, hP6, hg6⟩)
            go_roundg f'
            case measure => exact Nat.lt_succ_self _
            case rel =>
            refine ⟨.mk 16 0 [] 0 0 (Gram.tk T (j + 1)).n 0 [(.mk f1 s1 nm1 tk1 tl1 n1 m1 ks1 a1)] a1, j + 1 + 1 + 1, some ⟨w2.heap.size, 0, none⟩, 1, 1, by omega, Lib.hid ⟨?_, ?_, ?_, hP6, (hG9 _ _ _ _ _ _ _ _ _).trans hg6, by rw [HR2, hex]; rfl⟩⟩
            · exact (hg6.block w.heap.size (by simp; omega) hqb).trans (stored9 hN)
            · exact (hg6.block (w.heap.size + 1) (by simp; omega) (by simp; omega)).trans (((grown9 _ _ _ _ _ _ _ _ _ _ _).block (w.heap.size + 1) (by omega) (by simp)).trans ((hgA.block (w.heap.size + 1) hEl (by simp; omega)).trans hE1))
            · exact RepC.kept hg6 (fun k e => by cases e; exact hbB) (RepC.keptX (grown9 _ _ _ _ _ _ _ _ _ _ _) (fun k e => .inr (by cases e; simp)) hKx)
          · have hX := fun v0 v1 v2 v3 v4 v5 v6 v7 v8 => gexpect_no b g cap rv T (j + 1 + 1) d ⟨#[93]⟩ _ (hP9 v0 v1 v2 v3 v4 v5 v6 v7 v8) hx3
            have hex : Gram.expect T (j + 1 + 1) [93] = .bad ((Gram.tk T (j + 1 + 1)).at_ : Int) 12 := by unfold Gram.expect Gram.need Gram.fail; rw [if_neg (by rw [hx3]; decide)]
            go_wp2_with (go_at_call 77; refine (hX _ _ _ _ _ _ _ _ _).mono ?_; rintro e w6 ⟨rfl, hg6⟩)
            refine ⟨rfl, ?_⟩
            rw [HR2, hex]
            exact ⟨rfl, (hG9 _ _ _ _ _ _ _ _ _).trans hg6⟩
      · have hzn := fun wx (hx : w2.drew.grownBy wx none) => gsize_no b g cap rv T (j + 1) d wx (hPd.kept hx) hz1
        have hsz : Gram.size T (j + 1) = .bad ((Gram.tk T (j + 1)).at_ : Int) 12 := by unfold Gram.size Gram.need Gram.fail; rw [if_neg (by rw [hz1]; decide)]
        refine wp_region_L (S := fun w' => w'.cell? ⟨w.heap.size, 0, none⟩ = some (.int .i64 f1) ∧ w'.cell? ⟨w.heap.size, 1, none⟩ = some (.int .i64 s1) ∧ w'.cell? ⟨w.heap.size, 2, none⟩ = some (.string ⟨nm1.toArray⟩) ∧ w'.cell? ⟨w.heap.size, 3, none⟩ = some (.int .i64 tk1) ∧ w'.cell? ⟨w.heap.size, 4, none⟩ = some (.int .i64 tl1) ∧ w'.cell? ⟨w.heap.size, 5, none⟩ = some (.int .i64 n1) ∧ w'.cell? ⟨w.heap.size, 6, none⟩ = some (.int .i64 m1) ∧ w'.cell? ⟨w.heap.size, 7, none⟩ = some (.slice ka kn kc) ∧ w'.cell? ⟨w.heap.size, 8, none⟩ = some (.int .i64 a1)) (Z := [7]) (by kernel_rfl) ?_
        refine wpL_take (i := 0) (v := .pointer (some ⟨b, 0, none⟩)) rfl (by kernel_rfl) (by kernel_rfl) (by kernel_rfl) (fun _ _ _ h => h) (by kernel_rfl) (.inl ⟨rfl, fun w' hw' => ?_⟩) hS0 ?_
        · obtain ⟨q0, q1, q2, q3, q4, q5, q6, q7, q8⟩ := hw'
          go_simp
        refine wpL_take (i := 2) (v := .agg #[.int .i64 f1, .int .i64 s1, .string ⟨nm1.toArray⟩, .int .i64 tk1, .int .i64 tl1, .int .i64 n1, .int .i64 m1, .slice ka kn kc, .int .i64 a1]) rfl (by kernel_rfl) (by kernel_rfl) (by kernel_rfl) (fun _ _ _ h => h) (by kernel_rfl) (.inl ⟨rfl, fun w' hw' => ?_⟩) hS0 ?_
        · obtain ⟨q0, q1, q2, q3, q4, q5, q6, q7, q8⟩ := hw'
          go_simp
        refine wpL_take (i := 4) (v := .pointer (some ⟨w.heap.size, 8, none⟩)) rfl (by kernel_rfl) (by kernel_rfl) (by kernel_rfl) (fun _ _ _ h => h) (by kernel_rfl) (.inl ⟨rfl, fun w' hw' => ?_⟩) hS0 ?_
        · obtain ⟨q0, q1, q2, q3, q4, q5, q6, q7, q8⟩ := hw'
          go_simp
        refine wpL_take (i := 5) (v := .int .i64 a1) rfl (by kernel_rfl) (by kernel_rfl) (by kernel_rfl) (fun _ _ _ h => h) (by kernel_rfl) (.inl ⟨rfl, fun w' hw' => ?_⟩) hS0 ?_
        · obtain ⟨q0, q1, q2, q3, q4, q5, q6, q7, q8⟩ := hw'
          go_simp
        refine wpL_two (i := 1) (j := 3) (by kernel_rfl) ?_ ?_
        · refine wpOp_step rfl (fun K' hK => ?_)
          split
          case isFalse hno => exact absurd rfl hno
          unfold Oper.wp
          go_simp
          refine (hzn _ (World.grownBy.refl _ _)).mono ?_
          rintro e w3 ⟨rfl, hg3⟩
          refine ⟨rfl, ?_⟩
          rw [HR.out, hsz]
          exact ⟨rfl, hgD.trans hg3⟩
        · refine wpOp_step rfl (fun K' hK => ?_)
          split
          case isFalse hno => exact absurd rfl hno
          unfold Oper.wp
          go_simp
          refine hK _ _ ⟨fun _ => HSK.out _ _ hS0 (World.grownBy_alloc w2.drew _ (some b)), ?_⟩
          clear hK K'
          have hs2 : w2.drew.heap.size = w2.heap.size := rfl
          have hBq : B ≤ w2.drew.heap.size := by omega
          obtain ⟨w3, hw3⟩ : ∃ W, W = (w2.alloc (.cells #[.int .i64 f1, .int .i64 s1, .string ⟨nm1.toArray⟩, .int .i64 tk1, .int .i64 tl1, .int .i64 n1, .int .i64 m1, .slice ka kn kc, .int .i64 a1] 28)).drew := ⟨_, rfl⟩
          rw [← hw3]
          have hga : w2.drew.grownBy w3 none := by rw [hw3]; exact World.grownBy_alloc w2.drew _ _
          have hoa : w3.ownsRow B 28 9 (.slice (some ⟨w2.heap.size, 0, none⟩) 1 1) 1 (expCells (.mk f1 s1 nm1 tk1 tl1 n1 m1 ks1 a1) (.slice ka kn kc)) := by rw [hw3]; exact owns_new (w := w2.drew) 28 9 1 (expCells (.mk f1 s1 nm1 tk1 tl1 n1 m1 ks1 a1) (.slice ka kn kc)) hBq rfl (by unfold maxLen; omega)
          clear hw3
          refine wpL_one (i := 1) (by kernel_rfl) ?_
          refine wpOp_step rfl (fun K' hK => ?_)
          split
          case isFalse hno => exact absurd rfl hno
          unfold Oper.wp
          go_simp
          refine (hzn _ hga).mono ?_
          rintro e w5 ⟨rfl, hg5⟩
          refine ⟨rfl, ?_⟩
          rw [HR.out, hsz]
          exact ⟨rfl, (hgD.trans (grown_some hga b)).trans hg5⟩
    · have hA := gaccept_no b g cap rv T j d ⟨#[91]⟩ wr hP hsx
      have hr : Gram.indexed T f x0 i = .ok (.mk f1 s1 nm1 tk1 tl1 n1 m1 ks1 a1) j := by rw [← HL.out]; unfold Gram.indexed; rw [if_neg (by rw [hsx]; decide)]
      have HR := Lib.hid hr
      clear hr hf
      go_wp2_with (go_at_call 123; refine hA.mono ?_; rintro e w2 ⟨rfl, hg2⟩; refine Hid.out ?_)
      have d0 := hg2.cell c0 (by simp)
      have d1 := hg2.cell c1' (by simp)
      have d2 := hg2.cell c2 (by simp)
      have d3 := hg2.cell c3 (by simp)
      have d4 := hg2.cell c4 (by simp)
      have d5 := hg2.cell c5 (by simp)
      have d6 := hg2.cell c6 (by simp)
      have d7 := hg2.cell c7 (by simp)
      have d8 := hg2.cell c8 (by simp)
      refine Lib.hid ?_
      go_wp2_with (with_reducible refine hold_st 4 ?_)
      refine Lib.hid ?_
      refine wpList_store_gen rfl _ _ _ rfl (w.heap.size + 1) _ rfl rfl 28 _ ((hg2.block (w.heap.size + 1) hEl (by simp)).trans hE1) (by kernel_rfl) rfl (by simp [Value.oneCell']) ?_
      intro w4 hh4 hg4
      go_wp2
      (try simp only [Exit.inBlock, Exit.then])
      refine bodyPost_ret (results_cell_row rfl _ _ (w.heap.size + 1) 28 _ (0, 0) _ rfl hh4 Tryz.underlying28 rfl (by kernel_rfl)) rfl ?_
      rw [HR.out]
      have hG : w.grownBy w4 (some b) := (hg.trans (grown_some hg2 b)).andThen hg4 (fun j e => .inl (by cases e; exact Nat.le_succ _))
      exact ⟨_, rfl, RepC.noX (RepC.keptX hg4 (fun k e => .inr (by cases e; simp)) (RepC.kept hg2 (fun k e => by cases e) hk)), HH.out.to hG ((hP.st.kept hg2 (by simp)).kept hg4 (by simp; omega)) hP.lt, hG⟩
end

end Go.Proofs.YtachmiajldeakaaGreatDoor

/- gram's edges of states and clocks. -/
namespace Go.Proofs.YtachmiajldeakaaGreatDoor
open Go.RowKit Go.Maps Go.WideMaps

section
variable (b g cap : Nat) (rv : Value) (T : List Lex.Tk) (i d : Nat)

def edg0 : Obj := .cells #[.string ⟨#[]⟩, .bool false] 150
/-- what a part that reads an edge does -/
def edPost (w : World) (b g cap : Nat) (rv : Value) (T : List Lex.Tk) (d : Nat) (r : Gram.PR Gram.Edge) (e : Ending) (w' : World) : Prop :=
  match r with
  | .ok x i => e = .returned (.agg #[.string ⟨x.name.toArray⟩, .bool x.on]) ∧ Pa w' b g cap rv T i d ∧ w.grownBy w' (some b)
  | .bad a er => gBad w b a er e w'
  | .fuel => False

set_option maxHeartbeats 1600000 in
set_option maxRecDepth 20000 in
theorem gedge_any (w : World) (h : Pa w b g cap rv T i d) :
    Calls Tryz.prog 150 #[.pointer (some ⟨b, 0, none⟩)] w fun e w' => edPost w b g cap rv T d (Gram.edge T i) e w' := by
  have hbw := h.bl
  have hP0 := h.alloc edg0
  have HH := Lib.hid h
  clear h
  rcases Bool.eq_false_or_eq_true (Gram.sees T i [110, 111, 116]) with hs | hs
  · have hi := hP0.nextSees hs (by decide)
    have hA := gaccept_yes b g cap rv T i d ⟨#[110, 111, 116]⟩ _ hP0 hs hi
    rcases Bool.eq_false_or_eq_true (Gram.isName T (i + 1)) with hn | hn
    · have hne : Gram.edge T i = .ok ⟨(Gram.tk T (i + 1)).text, false⟩ ((i + 1) + 1) := by unfold Gram.edge; rw [if_pos hs]; unfold Gram.name Gram.need ; rw [if_pos hn]; rfl
      rw [hne]
      go_enter Tryz.func150, Tryz.ntmps150
      go_wp2_with (go_at_call 123; refine hA.mono ?_; rintro e w1 ⟨rfl, hP1, hg1⟩; refine Hid.out ?_)
      have hNm := gname_yes b g cap rv T (i + 1) d w1 hP1 hn
      refine Lib.hid ?_
      go_wp2_with (first | (go_at_call 78; refine hNm.mono ?_; rintro e w2 ⟨rfl, hP2, hg2⟩) | (with_reducible refine hold_st 2 ?_))
      have hgW : (w.alloc edg0).grownBy w2 (some b) := hg1.trans hg2
      refine Lib.hid ?_
      refine wpList_store_gen rfl _ _ _ rfl w.heap.size _ rfl rfl 150 _ ((hgW.block w.heap.size (by simp) (by simp; omega)).trans (heap_alloc_new w edg0)) (by kernel_rfl) rfl (by simp [Value.oneCell']) ?_
      intro w4 hh4 hg4
      go_wp2
      (try simp only [Exit.inBlock, Exit.then])
      refine bodyPost_ret (results_cell_row rfl _ _ w.heap.size 150 _ (0, 0) _ rfl hh4 Tryz.underlying150 rfl (by kernel_rfl)) rfl ?_
      have hG : w.grownBy w4 (some b) := ((grown_some (World.grownBy_alloc w edg0 none) b).trans hgW).andThen hg4 (fun j e => .inl (by cases e; exact Nat.le_refl _))
      exact ⟨rfl, HH.out.to hG (hP2.st.kept hg4 (by simp; omega)) hP2.lt, hG⟩
    · have hne : Gram.edge T i = .bad ((Gram.tk T (i + 1)).at_ : Int) 12 := by unfold Gram.edge; rw [if_pos hs]; unfold Gram.name Gram.need Gram.fail; rw [if_neg (by rw [hn]; decide)]; rfl
      rw [hne]
      go_enter Tryz.func150, Tryz.ntmps150
      go_wp2_with (go_at_call 123; refine hA.mono ?_; rintro e w1 ⟨rfl, hP1, hg1⟩; refine Hid.out ?_)
      have hNm := gname_no b g cap rv T (i + 1) d w1 hP1 hn
      refine Lib.hid ?_
      go_wp2_with (go_at_call 78; refine hNm.mono ?_; rintro e w2 ⟨rfl, hg2⟩)
      exact ⟨rfl, rfl, (grown_some (World.grownBy_alloc w edg0 none) b).trans (hg1.trans hg2)⟩
  · have hA := gaccept_no b g cap rv T i d ⟨#[110, 111, 116]⟩ _ hP0 hs
    rcases Bool.eq_false_or_eq_true (Gram.isName T i) with hn | hn
    · have hne : Gram.edge T i = .ok ⟨(Gram.tk T i).text, true⟩ (i + 1) := by unfold Gram.edge; rw [if_neg (by rw [hs]; decide)]; unfold Gram.name Gram.need ; rw [if_pos hn]; rfl
      rw [hne]
      go_enter Tryz.func150, Tryz.ntmps150
      go_wp2_with (go_at_call 123; refine hA.mono ?_; rintro e w1 ⟨rfl, hg0⟩; have hP1 := hP0.kept hg0; have hg1 := grown_some hg0 b; refine Hid.out ?_)
      have hNm := gname_yes b g cap rv T i d w1 hP1 hn
      refine Lib.hid ?_
      go_wp2_with (first | (go_at_call 78; refine hNm.mono ?_; rintro e w2 ⟨rfl, hP2, hg2⟩) | (with_reducible refine hold_st 2 ?_))
      have hgW : (w.alloc edg0).grownBy w2 (some b) := hg1.trans hg2
      refine Lib.hid ?_
      refine wpList_store_gen rfl _ _ _ rfl w.heap.size _ rfl rfl 150 _ ((hgW.block w.heap.size (by simp) (by simp; omega)).trans (heap_alloc_new w edg0)) (by kernel_rfl) rfl (by simp [Value.oneCell']) ?_
      intro w4 hh4 hg4
      go_wp2
      (try simp only [Exit.inBlock, Exit.then])
      refine bodyPost_ret (results_cell_row rfl _ _ w.heap.size 150 _ (0, 0) _ rfl hh4 Tryz.underlying150 rfl (by kernel_rfl)) rfl ?_
      have hG : w.grownBy w4 (some b) := ((grown_some (World.grownBy_alloc w edg0 none) b).trans hgW).andThen hg4 (fun j e => .inl (by cases e; exact Nat.le_refl _))
      exact ⟨rfl, HH.out.to hG (hP2.st.kept hg4 (by simp; omega)) hP2.lt, hG⟩
    · have hne : Gram.edge T i = .bad ((Gram.tk T i).at_ : Int) 12 := by unfold Gram.edge; rw [if_neg (by rw [hs]; decide)]; unfold Gram.name Gram.need Gram.fail; rw [if_neg (by rw [hn]; decide)]; rfl
      rw [hne]
      go_enter Tryz.func150, Tryz.ntmps150
      go_wp2_with (go_at_call 123; refine hA.mono ?_; rintro e w1 ⟨rfl, hg0⟩; have hP1 := hP0.kept hg0; have hg1 := grown_some hg0 b; refine Hid.out ?_)
      have hNm := gname_no b g cap rv T i d w1 hP1 hn
      refine Lib.hid ?_
      go_wp2_with (go_at_call 78; refine hNm.mono ?_; rintro e w2 ⟨rfl, hg2⟩)
      exact ⟨rfl, rfl, (grown_some (World.grownBy_alloc w edg0 none) b).trans (hg1.trans hg2)⟩
end

end Go.Proofs.YtachmiajldeakaaGreatDoor

/- gram's lists of expressions with commas between. -/
namespace Go.Proofs.YtachmiajldeakaaGreatDoor
open Go.RowKit Go.Maps Go.WideMaps

mutual
/-- what was there before is in no new block -/
theorem RepC.keptN {w w' : World} {B : Nat} {E : List Nat} {row : Option Nat} (hg : w.grownBy w' row) (hr : ∀ k, row = some k → k < B ∨ k ∈ E) (E' : List Nat) (hE' : ∀ k ∈ E', w.heap.size ≤ k) : ∀ {d : D} {v : Value}, RepC w B E d v → RepC w' B E' d v
  | _, _, .c v => .c v
  | _, v, .l ho hE h => .l (ho.kept hg (by
      cases hv : v.ownBlock with
      | none => exact .inl rfl
      | some k => exact .inr (fun e => by
          rcases hr k e.symm with h2 | h2
          · have h1 := (ho.lt k hv).1; omega
          · exact hE k h2 hv))) (fun k e hv => by have h1 := hE' k e; have h2 := ho.lt _ hv; omega) (RepRow.keptN hg hr E' hE' h)
theorem RepRow.keptN {w w' : World} {B : Nat} {E : List Nat} {row : Option Nat} (hg : w.grownBy w' row) (hr : ∀ k, row = some k → k < B ∨ k ∈ E) (E' : List Nat) (hE' : ∀ k ∈ E', w.heap.size ≤ k) : ∀ {ds : List D} {vs : List Value}, RepRow w B E ds vs → RepRow w' B E' ds vs
  | _, _, .nil => .nil
  | _, _, .cons h t => .cons (RepC.keptN hg hr E' hE' h) (RepRow.keptN hg hr E' hE' t)
end

/-- a list of expressions that is being made: no list of its parts lies in its own block -/
def Growing (w : World) (B : Nat) (l : List Gram.Exp) (v : Value) : Prop := ∃ xs, w.ownsRow B 28 9 v l.length xs ∧ RepRow w B v.ownBlock.toList (expsD l).flatten xs
theorem Growing.kids {w : World} {B : Nat} {l : List Gram.Exp} {v : Value} (h : Growing w B l v) : Kids w B l v := by
  obtain ⟨xs, ho, hx⟩ := h
  exact .l (by rw [expsD_len]; exact ho) (fun _ e => by cases e) (RepRow.noX hx)
theorem Growing.nil (w : World) (B : Nat) : Growing w B [] (.slice none 0 0) := ⟨[], World.ownsRow_nil w B _ _, .nil⟩
theorem Growing.kept {w w' : World} {B : Nat} {l : List Gram.Exp} {v : Value} {row : Option Nat} (hg : w.grownBy w' row) (hr : ∀ k, row = some k → k < B) (h : Growing w B l v) : Growing w' B l v := by
  obtain ⟨xs, ho, hx⟩ := h
  refine ⟨xs, ho.kept hg ?_, RepRow.keptX hg (fun k e => .inl (hr k e)) hx⟩
  cases hv : v.ownBlock with
  | none => exact .inl rfl
  | some k => exact .inr (fun e => by have h1 := (ho.lt k hv).1; have h2 := hr k e.symm; omega)
theorem Growing.lt {w : World} {B : Nat} {l : List Gram.Exp} {v : Value} (h : Growing w B l v) : ∀ k ∈ v.ownBlock.toList, k < w.heap.size := by
  obtain ⟨xs, ho, hx⟩ := h
  intro k hk
  exact (ho.lt k (by simpa using hk)).2
theorem Growing.keptB {w w' : World} {B : Nat} {l : List Gram.Exp} {v : Value} {b : Nat} (h : Growing w B l v) (hg : w.grownBy w' (some b)) (hb : b < B) : Growing w' B l v := Growing.kept hg (fun k e => by cases e; exact hb) h
theorem Growing.kept0 {w w' : World} {B : Nat} {l : List Gram.Exp} {v : Value} (h : Growing w B l v) (hg : w.grownBy w' none) : Growing w' B l v := Growing.kept hg (fun k e => by cases e) h
theorem Growing.mono {w : World} {B B' : Nat} {l : List Gram.Exp} {v : Value} (h : Growing w B l v) (hB : B' ≤ B) : Growing w B' l v := by
  obtain ⟨xs, ho, hx⟩ := h
  exact ⟨xs, ho.mono hB, RepRow.mono hB hx⟩
theorem Growing.form {w : World} {B : Nat} {l : List Gram.Exp} {v : Value} (h : Growing w B l v) : ∃ a n c, v = .slice a n c := Kids.form h.kids
theorem growing_snoc {w w' : World} {B : Nat} {l : List Gram.Exp} {v v' k : Value} {x : Gram.Exp} {xs : List Value} (hg : w.grownBy w' v.ownBlock) (ho : w'.ownsRow B 28 9 v' (l.length + 1) (xs ++ expCells x k)) (hx : RepRow w B v.ownBlock.toList (expsD l).flatten xs)
    (hk : KidsX w B v.ownBlock.toList x.kids k) (hv : v'.ownBlock = v.ownBlock ∨ v'.ownBlock = some w.heap.size) : Growing w' B (l ++ [x]) v' := by
  have ha := hx.append (exp_row hk)
  refine ⟨_, by simpa using ho, ?_⟩
  have e : (expsD (l ++ [x])).flatten = (expsD l).flatten ++ expD x := by rw [expsD_append]; simp [expsD]
  rw [e]
  rcases hv with hv | hv
  · rw [hv]; exact RepRow.keptX hg (fun k e => .inr (by rw [e]; simp)) ha
  · rw [hv]; exact RepRow.keptN hg (fun k e => .inr (by rw [e]; simp)) _ (fun k e => by simp at e; omega) ha

theorem infoE : (Tryz.prog.info? 28).map (fun i => (i.zero, i.size, i.bytes)) = some (some (.agg #[.int .i64 0, .int .i64 0, .string ⟨#[]⟩, .int .i64 0, .int .i64 0, .int .i64 0, .int .i64 0, .slice none 0 0, .int .i64 0]), 9, 96) := by kernel_rfl
theorem len_ownE {w : World} {base : Nat} {v : Value} {n : Nat} {xs : List Value} (h : w.ownsRow base 28 9 v n xs) (ty : TypeId) (wx : World) :
    (Builtin.len_ #[26] ty #[v]).run Tryz.prog wx = .ok (.int .i64 (n : Int)) wx := by
  rcases h.2 with ⟨rfl, rfl⟩ | ⟨g, cap, cur, rfl, _⟩
  · simp [Builtin.len_, run_underlying Tryz.underlying26, goInt, Result.andThen]
  · simp [Builtin.len_, run_underlying Tryz.underlying26, goInt, Result.andThen]

/-- what a part that reads expressions does -/
def xsPost (w : World) (b g cap : Nat) (rv : Value) (T : List Lex.Tk) (d : Nat) (r : Gram.PR (List Gram.Exp)) (e : Ending) (w' : World) : Prop :=
  match r with
  | .ok l i => ∃ v, e = .returned v ∧ Growing w' w.heap.size l v ∧ Pa w' b g cap rv T i d ∧ w.grownBy w' (some b)
  | .bad a er => gBad w b a er e w'
  | .fuel => False

theorem cell_row_new (w : World) (cs : List Value) (t : TypeId) : ∀ j u, cs[j]? = some u → (w.alloc (.cells cs.toArray t)).cell? ((⟨w.heap.size, 0, none⟩ : Addr).add j) = some u := by
  intro j u hj
  have h := cell_of_row (w.alloc (.cells cs.toArray t)) w.heap.size j cs.toArray t (0, 0) (heap_alloc_new w _)
  have e : (⟨w.heap.size, 0, none⟩ : Addr).add j = ⟨w.heap.size, j, none⟩ := by
    simp only [Addr.add, Nat.zero_add]
    split
    · next hj => rw [hj]
    · rfl
  rw [e, h]; simpa using hj
theorem exp_one (x : Gram.Exp) (a : Option Addr) (n c : Nat) : ∀ u ∈ expCells x (.slice a n c), u.oneCell' = true := by
  cases x
  intro u hu
  simp only [expCells, List.mem_cons, List.not_mem_nil, or_false] at hu
  rcases hu with rfl | rfl | rfl | rfl | rfl | rfl | rfl | rfl | rfl <;> rfl

section
variable (b g cap : Nat) (rv : Value) (T : List Lex.Tk)

set_option maxHeartbeats 3200000 in
set_option maxRecDepth 20000 in
theorem gpartedExp_any (f : Nat) (hC : ∀ f', f' < f → CExp b g cap rv T f') (d i : Nat) (w : World) (h : Pa w b g cap rv T i d) (hf : (Gram.exps T f d [] i).isFuel = false) :
    Calls Tryz.prog 201 #[.pointer (some ⟨b, 0, none⟩), .string ⟨#[44]⟩, .func (.func 170) #[.pointer (some ⟨b, 0, none⟩)] #[], .func (.func 145) #[.pointer (some ⟨b, 0, none⟩)] #[]] w fun e w' => xsPost w b g cap rv T d (Gram.exps T f d [] i) e w' := by
  obtain ⟨it, hit, hz, hsz, hby⟩ := infoP infoE
  have hbw := h.bl
  have HH := Lib.hid h
  clear h
  go_enter Tryz.func201, Tryz.ntmps201
  go_wp2
  go_loopg [9, 10] f (fun (f' : Nat) (s9 : Value) (s10 : Value) (wr : World) => ∃ (acc : List Gram.Exp) (j : Nat), f' ≤ f ∧ Hid (Growing wr w.heap.size acc s9 ∧ Pa wr b g cap rv T j d ∧ w.grownBy wr (some b) ∧ ((s10 = .bool true ∧ Gram.exps T f' d acc j = Gram.exps T f d [] i) ∨ (s10 = .bool false ∧ Gram.exps T f d [] i = .ok acc j))))
  case atStart => exact ⟨[], i, Nat.le_refl _, Lib.hid ⟨Growing.nil _ _, HH.out, World.grownBy.refl _ _, .inl ⟨rfl, rfl⟩⟩⟩
  case round =>
    obtain ⟨acc, j, hff, HG⟩ := hrel
    obtain ⟨hA, hP, hg, hL⟩ := HG.out
    clear HG
    rcases hL with ⟨rfl, hL⟩ | ⟨rfl, hL⟩
    · rcases Nat.eq_zero_or_pos gk with hz0 | hz0
      · rw [hz0] at hL; rw [← hL] at hf; exact absurd hf (by simp [Gram.exps, Gram.PR.isFuel])
      obtain ⟨f', hfe⟩ : ∃ f', gk = f' + 1 := ⟨gk - 1, by omega⟩
      subst hfe
      have hr : Gram.exps T f d [] i = Gram.need T j (Gram.seesExp T j) (Gram.room T j acc.length 16 ((Gram.exp T f' d j).bind fun e k => if Gram.sees T k [44] then Gram.exps T f' d (acc ++ [e]) (k + 1) else .ok (acc ++ [e]) k)) := by rw [← hL]; conv => lhs; unfold Gram.exps
      rw [hr] at hf
      have HR := Lib.hid hr
      clear hr hL
      have hD := gexp_sees b g cap rv T j d wr hP
      have hy := fun wx => gneed_yes b wx
      obtain ⟨xs, hown, hrow⟩ := hA
      have hlf := fun ty wx => len_ownE hown ty wx
      have HA := Lib.hid (show Growing wr w.heap.size acc u9 from ⟨xs, hown, hrow⟩)
      have HO := Lib.hid hown
      have HRW := Lib.hid hrow
      clear hown hrow
      unfold Gram.need at hf
      rcases Bool.eq_false_or_eq_true (Gram.seesExp T j) with hs | hs
      · rw [hs] at hD
        rw [if_pos hs] at hf
        unfold Gram.room at hf
        by_cases hm : 16 ≤ acc.length
        · have hrm := fun wx (hx : wr.grownBy wx none) => groom_no b g cap rv T j d (acc.length : Int) 16 (by omega) wx (hP.kept hx)
          go_wp2_with (first | (go_at_call 170; refine hD.mono ?_; rintro e w1 ⟨rfl, hg1⟩) | (go_at_call 36; refine (hy _).mono ?_; rintro e w9 ⟨rfl, hw9⟩; rw [hw9]; clear hw9) | (go_at_call 75; refine (hrm _ hg1).mono ?_; rintro e w2 ⟨rfl, hg2⟩))
          refine ⟨rfl, ?_⟩
          rw [HR.out]
          unfold Gram.need Gram.room Gram.fail
          rw [if_pos hs, if_pos hm]
          exact ⟨rfl, (hg.trans (grown_some hg1 b)).trans hg2⟩
        · rw [if_neg hm] at hf
          have hrm := fun wx => groom_yes b (acc.length : Int) 16 (by omega) wx
          have HM := Lib.hid hm
          clear hm
          cases hex : Gram.exp T f' d j with
          | fuel => rw [hex] at hf; cases hf
          | bad a er =>
            have hc := fun wx (hx : wr.grownBy wx none) => hC f' (by omega) d j wx (hP.kept hx) (by rw [hex]; rfl)
            simp only [hex, ePost] at hc
            go_wp2_with (first | (go_at_call 170; refine hD.mono ?_; rintro e w1 ⟨rfl, hg1⟩) | (go_at_call 36; refine (hy _).mono ?_; rintro e w9 ⟨rfl, hw9⟩; rw [hw9]; clear hw9) | (go_at_call 75; refine (hrm _).mono ?_; rintro e w8 ⟨rfl, hw8⟩; rw [hw8]; clear hw8) | (go_at_call 145; refine (hc _ hg1).mono ?_; rintro e w2 ⟨rfl, hg2⟩))
            refine ⟨rfl, ?_⟩
            rw [HR.out]
            unfold Gram.need Gram.room
            rw [if_pos hs, if_neg HM.out, hex]
            exact ⟨rfl, (hg.trans (grown_some hg1 b)).trans hg2⟩
          | ok x k =>
            have hc := fun wx (hx : wr.grownBy wx none) => hC f' (by omega) d j wx (hP.kept hx) (by rw [hex]; rfl)
            cases x with
            | mk f1 s1 nm1 tk1 tl1 n1 m1 ks1 a1 =>
            simp only [hex, ePost, expV] at hc
            have HE : Hid (Gram.exps T f d [] i = if Gram.sees T k [44] then Gram.exps T f' d (acc ++ [(.mk f1 s1 nm1 tk1 tl1 n1 m1 ks1 a1)]) (k + 1) else .ok (acc ++ [(.mk f1 s1 nm1 tk1 tl1 n1 m1 ks1 a1)]) k) := by
              show _ = _
              rw [HR.out]
              unfold Gram.need Gram.room
              rw [if_pos hs, if_neg HM.out, hex]
              rfl
            clear hf hex HR
            go_wp2_with (first | (go_at_call 170; refine hD.mono ?_; rintro e w1 ⟨rfl, hg1⟩) | (go_at_call 36; refine (hy _).mono ?_; rintro e w9 ⟨rfl, hw9⟩; rw [hw9]; clear hw9) | (go_at_call 75; refine (hrm _).mono ?_; rintro e w8 ⟨rfl, hw8⟩; rw [hw8]; clear hw8) | (go_at_call 145; refine (hc _ hg1).mono ?_; rintro e w2 ⟨k2, rfl, hk2, hP2, hg2⟩; refine Hid.out ?_))
            obtain ⟨ka, kn, kc, rfl⟩ := hk2.form
            have hgA : wr.grownBy w2 (some b) := (grown_some hg1 b).trans hg2
            obtain ⟨xs2, ho2, hr2⟩ := Growing.kept hgA (fun k e => by cases e; exact hbw) HA.out
            have hl16 := HM.out
            have hszw := hg.size
            have hszA := hgA.size
            have hsz1 := hg1.size
            refine Lib.hid ?_
            go_wp2_with (at_builtin; refine wpList_append_own_at _ rfl _ _ 26 rfl w.heap.size 28 it _ 9 96 Tryz.underlying26 hit hz hsz hby rfl (by decide) _ acc.length xs2 rfl (ho2.alloc _) ⟨w2.heap.size, 0, none⟩ 1 1 (expCells (.mk f1 s1 nm1 tk1 tl1 n1 m1 ks1 a1) (.slice ka kn kc)) rfl rfl (cell_row_new w2 (expCells (.mk f1 s1 nm1 tk1 tl1 n1 m1 ks1 a1) (.slice ka kn kc)) 28) (exp_one _ _ _ _) ?_ ?_ ?_ ?_)
            · unfold maxLen; omega
            · omega
            · simp only [World.size_alloc]; omega
            intro v' w3 hown' hgrow3 _ hvb
            have hG3 : Growing w3 w.heap.size (acc ++ [(.mk f1 s1 nm1 tk1 tl1 n1 m1 ks1 a1)]) v' := growing_snoc hgrow3 hown' (RepRow.keptX (World.grownBy_alloc w2 _ none) (fun k e => by cases e) hr2) (RepC.kept (World.grownBy_alloc w2 _ none) (fun k e => by cases e) (RepC.mono (by omega) (RepC.toX u9.ownBlock.toList (fun k e => .inr (by have := HA.out.lt k e; omega)) hk2))) (by rw [World.size_alloc]; exact hvb)
            have hg3 : w.grownBy w3 (some b) := (galloc (hg.trans hgA) _).andThen hgrow3 (fun j e => .inl (ho2.lt j e).1)
            have hP3 : Pa w3 b g cap rv T k d := HH.out.to hg3 ((hP2.st.kept (World.grownBy_alloc w2 _ none) (by simp)).kept hgrow3 (by intro e; have := ho2.lt b (by first | exact e | exact e.symm); omega)) hP2.lt
            have HG3 := Lib.hid hG3
            clear hG3 hown' hvb
            rcases Bool.eq_false_or_eq_true (Gram.sees T k [44]) with hsx | hsx
            · have hi3 := hP3.nextSees hsx (by decide)
              have hAc := gaccept_yes b g cap rv T k d ⟨#[44]⟩ w3 hP3 hsx hi3
              go_wp2_with (go_at_call 123; refine hAc.mono ?_; rintro e w4 ⟨rfl, hP4, hg4⟩)
              go_roundg f'
              case measure => exact Nat.lt_succ_self _
              case rel => exact ⟨acc ++ [(.mk f1 s1 nm1 tk1 tl1 n1 m1 ks1 a1)], k + 1, by omega, Lib.hid ⟨Growing.kept hg4 (fun k e => by cases e; exact hbw) HG3.out, hP4, hg3.trans hg4, .inl ⟨rfl, by rw [HE.out, if_pos hsx]⟩⟩⟩
            · have hAc := gaccept_no b g cap rv T k d ⟨#[44]⟩ w3 hP3 hsx
              go_wp2_with (go_at_call 123; refine hAc.mono ?_; rintro e w4 ⟨rfl, hg4⟩)
              go_roundg f'
              case measure => exact Nat.lt_succ_self _
              case rel => exact ⟨acc ++ [(.mk f1 s1 nm1 tk1 tl1 n1 m1 ks1 a1)], k, by omega, Lib.hid ⟨Growing.kept hg4 (fun k e => by cases e) HG3.out, hP3.kept hg4, hg3.trans (grown_some hg4 b), .inr ⟨rfl, by rw [HE.out, if_neg (by rw [hsx]; decide)]⟩⟩⟩
      · rw [hs] at hD
        have hno := fun wx (hx : wr.grownBy wx none) => gneed_no b g cap rv T j d wx (hP.kept hx)
        go_wp2_with (first | (go_at_call 170; refine hD.mono ?_; rintro e w1 ⟨rfl, hg1⟩) | (go_at_call 36; refine (hno _ hg1).mono ?_; rintro e w2 ⟨rfl, hg2⟩))
        refine ⟨rfl, ?_⟩
        rw [HR.out]
        unfold Gram.need Gram.fail
        rw [if_neg (by rw [hs]; decide)]
        exact ⟨rfl, (hg.trans (grown_some hg1 b)).trans hg2⟩
    · have HR := Lib.hid hL
      clear hL hf
      go_wp2
      go_ret
      rw [HR.out]
      exact ⟨_, rfl, hA, hP, hg⟩
end

end Go.Proofs.YtachmiajldeakaaGreatDoor

/- gram's exps and arguments. -/
namespace Go.Proofs.YtachmiajldeakaaGreatDoor
open Go.RowKit Go.Maps Go.WideMaps

section
variable (b g cap : Nat) (rv : Value) (T : List Lex.Tk)

set_option maxHeartbeats 1600000 in
set_option maxRecDepth 20000 in
theorem gexps_any (f : Nat) (hC : ∀ f', f' < f → CExp b g cap rv T f') (d i : Nat) (w : World) (h : Pa w b g cap rv T i d) (hf : (Gram.exps T f d [] i).isFuel = false) :
    Calls Tryz.prog 172 #[.pointer (some ⟨b, 0, none⟩)] w fun e w' => xsPost w b g cap rv T d (Gram.exps T f d [] i) e w' := by
  have hp := gpartedExp_any b g cap rv T f hC d i w h hf
  clear h hC
  cases hx : Gram.exps T f d [] i with
  | fuel => rw [hx] at hf; cases hf
  | bad a er =>
    rw [hx] at hp
    simp only [xsPost] at hp ⊢
    clear hf hx
    go_enter Tryz.func172, Tryz.ntmps172
    go_wp2_with (go_at_call 201; refine hp.mono ?_; rintro e w1 ⟨rfl, hg1⟩)
    exact ⟨rfl, rfl, hg1⟩
  | ok l k =>
    rw [hx] at hp
    simp only [xsPost] at hp ⊢
    clear hf hx
    go_enter Tryz.func172, Tryz.ntmps172
    go_wp2_with (go_at_call 201; refine hp.mono ?_; rintro e w1 ⟨v, rfl, hk1, hP1, hg1⟩)
    go_ret
    exact ⟨_, rfl, hk1, hP1, hg1⟩

set_option maxHeartbeats 1600000 in
set_option maxRecDepth 20000 in
theorem gargs_any (f : Nat) (hC : ∀ f', f' < f → CExp b g cap rv T f') (d i : Nat) (w : World) (h : Pa w b g cap rv T i d) (hf : (Gram.args T (f + 1) d i).isFuel = false) :
    Calls Tryz.prog 169 #[.pointer (some ⟨b, 0, none⟩)] w fun e w' => xsPost w b g cap rv T d (Gram.args T (f + 1) d i) e w' := by
  have hbw := h.bl
  have hr : Gram.args T (f + 1) d i = (Gram.expect T i [40]).bind fun _ j => (if Gram.sees T j [41] then Gram.PR.ok [] j else Gram.exps T f d [] j).bind fun l k => (Gram.expect T k [41]).bind fun _ m => .ok l m := by conv => lhs; unfold Gram.args
  rw [hr] at hf ⊢
  clear hr
  rcases Bool.eq_false_or_eq_true (Gram.sees T i [40]) with h1 | h1
  · have hi1 := h.nextSees h1 (by decide)
    have hA := gexpect_yes b g cap rv T i d ⟨#[40]⟩ w h h1 hi1
    have e1 : Gram.expect T i [40] = .ok (Gram.tk T i) (i + 1) := by unfold Gram.expect Gram.need; rw [if_pos h1]
    rw [e1] at hf ⊢
    have hf2 : ((if Gram.sees T (i + 1) [41] then Gram.PR.ok [] (i + 1) else Gram.exps T f d [] (i + 1)).bind fun l k => (Gram.expect T k [41]).bind fun _ m => Gram.PR.ok l m).isFuel = false := hf
    show Calls _ _ _ _ fun e w' => xsPost w b g cap rv T d ((if Gram.sees T (i + 1) [41] then Gram.PR.ok [] (i + 1) else Gram.exps T f d [] (i + 1)).bind fun l k => (Gram.expect T k [41]).bind fun _ m => Gram.PR.ok l m) e w'
    clear hf e1 h1 h
    rcases Bool.eq_false_or_eq_true (Gram.sees T (i + 1) [41]) with h2 | h2
    · rw [if_pos h2] at hf2 ⊢
      show Calls _ _ _ _ fun e w' => xsPost w b g cap rv T d ((Gram.expect T (i + 1) [41]).bind fun _ m => Gram.PR.ok [] m) e w'
      have e2 : Gram.expect T (i + 1) [41] = .ok (Gram.tk T (i + 1)) (i + 1 + 1) := by unfold Gram.expect Gram.need; rw [if_pos h2]
      rw [e2]
      simp only [Gram.PR.bind, xsPost]
      have hS := fun wx (hx : Pa wx b g cap rv T (i + 1) d) => gsees_any b g cap rv T (i + 1) d ⟨#[41]⟩ wx hx
      simp only [h2] at hS
      have hX := fun wx (hx : Pa wx b g cap rv T (i + 1) d) => gexpect_yes b g cap rv T (i + 1) d ⟨#[41]⟩ wx hx h2 (hx.nextSees h2 (by decide))
      clear hf2 e2
      go_enter Tryz.func169, Tryz.ntmps169
      go_wp2_with (first | (go_at_call 77; refine hA.mono ?_; rintro e w1 ⟨rfl, hP1, hg1⟩; refine Hid.out ?_))
      have hS1 := hS _ hP1
      refine Lib.hid ?_
      go_wp2_with (first | (go_at_call 76; refine hS1.mono ?_; rintro e w2 ⟨rfl, hg2⟩; refine Hid.out ?_))
      have hX2 := hX _ (hP1.kept hg2)
      refine Lib.hid ?_
      go_wp2_with (first | (go_at_call 77; refine hX2.mono ?_; rintro e w3 ⟨rfl, hP3, hg3⟩))
      go_ret
      exact ⟨_, rfl, Growing.nil _ _, hP3, (hg1.trans (grown_some hg2 b)).trans hg3⟩
    · rw [if_neg (by rw [h2]; decide)] at hf2 ⊢
      have hS := fun wx (hx : Pa wx b g cap rv T (i + 1) d) => gsees_any b g cap rv T (i + 1) d ⟨#[41]⟩ wx hx
      simp only [h2] at hS
      cases hx : Gram.exps T f d [] (i + 1) with
      | fuel => rw [hx] at hf2; cases hf2
      | bad a er =>
        have hp := fun wx (hw : Pa wx b g cap rv T (i + 1) d) => gexps_any b g cap rv T f hC d (i + 1) wx hw (by rw [hx]; rfl)
        simp only [hx, xsPost] at hp
        simp only [Gram.PR.bind, xsPost]
        clear hf2 hx hC
        go_enter Tryz.func169, Tryz.ntmps169
        go_wp2_with (first | (go_at_call 77; refine hA.mono ?_; rintro e w1 ⟨rfl, hP1, hg1⟩; refine Hid.out ?_))
        have hS1 := hS _ hP1
        refine Lib.hid ?_
        go_wp2_with (first | (go_at_call 76; refine hS1.mono ?_; rintro e w2 ⟨rfl, hg2⟩; refine Hid.out ?_))
        have hp2 := hp _ (hP1.kept hg2)
        refine Lib.hid ?_
        go_wp2_with (first | (go_at_call 172; refine hp2.mono ?_; rintro e w3 ⟨rfl, hg3⟩))
        exact ⟨rfl, rfl, (hg1.trans (grown_some hg2 b)).trans hg3⟩
      | ok l k =>
        have hp := fun wx (hw : Pa wx b g cap rv T (i + 1) d) => gexps_any b g cap rv T f hC d (i + 1) wx hw (by rw [hx]; rfl)
        simp only [hx, xsPost] at hp
        show Calls _ _ _ _ fun e w' => xsPost w b g cap rv T d ((Gram.expect T k [41]).bind fun _ m => Gram.PR.ok l m) e w'
        clear hf2 hx hC
        rcases Bool.eq_false_or_eq_true (Gram.sees T k [41]) with h3 | h3
        · have e3 : Gram.expect T k [41] = .ok (Gram.tk T k) (k + 1) := by unfold Gram.expect Gram.need; rw [if_pos h3]
          rw [e3]
          simp only [Gram.PR.bind, xsPost]
          have hX := fun wx (hx : Pa wx b g cap rv T k d) => gexpect_yes b g cap rv T k d ⟨#[41]⟩ wx hx h3 (hx.nextSees h3 (by decide))
          clear e3
          go_enter Tryz.func169, Tryz.ntmps169
          go_wp2_with (first | (go_at_call 77; refine hA.mono ?_; rintro e w1 ⟨rfl, hP1, hg1⟩; refine Hid.out ?_))
          have hS1 := hS _ hP1
          have hs1 := hg1.size
          refine Lib.hid ?_
          go_wp2_with (first | (go_at_call 76; refine hS1.mono ?_; rintro e w2 ⟨rfl, hg2⟩; refine Hid.out ?_))
          have hp2 := hp _ (hP1.kept hg2)
          have hs2 := hg2.size
          refine Lib.hid ?_
          go_wp2_with (first | (go_at_call 172; refine hp2.mono ?_; rintro e w3 ⟨v3, rfl, hk3, hP3, hg3⟩; refine Hid.out ?_))
          have hX2 := hX _ hP3
          refine Lib.hid ?_
          go_wp2_with (first | (go_at_call 77; refine hX2.mono ?_; rintro e w4 ⟨rfl, hP4, hg4⟩))
          go_ret
          exact ⟨_, rfl, (hk3.keptB hg4 (by omega)).mono (by omega), hP4, ((hg1.trans (grown_some hg2 b)).trans hg3).trans hg4⟩
        · have e3 : Gram.expect T k [41] = .bad ((Gram.tk T k).at_ : Int) 12 := by unfold Gram.expect Gram.need Gram.fail; rw [if_neg (by rw [h3]; decide)]
          rw [e3]
          simp only [Gram.PR.bind, xsPost]
          have hX := fun wx (hx : Pa wx b g cap rv T k d) => gexpect_no b g cap rv T k d ⟨#[41]⟩ wx hx h3
          clear e3
          go_enter Tryz.func169, Tryz.ntmps169
          go_wp2_with (first | (go_at_call 77; refine hA.mono ?_; rintro e w1 ⟨rfl, hP1, hg1⟩; refine Hid.out ?_))
          have hS1 := hS _ hP1
          refine Lib.hid ?_
          go_wp2_with (first | (go_at_call 76; refine hS1.mono ?_; rintro e w2 ⟨rfl, hg2⟩; refine Hid.out ?_))
          have hp2 := hp _ (hP1.kept hg2)
          refine Lib.hid ?_
          go_wp2_with (first | (go_at_call 172; refine hp2.mono ?_; rintro e w3 ⟨v3, rfl, hk3, hP3, hg3⟩; refine Hid.out ?_))
          have hX2 := hX _ hP3
          refine Lib.hid ?_
          go_wp2_with (first | (go_at_call 77; refine hX2.mono ?_; rintro e w4 ⟨rfl, hg4⟩))
          exact ⟨rfl, rfl, ((hg1.trans (grown_some hg2 b)).trans hg3).trans hg4⟩
  · have hA := gexpect_no b g cap rv T i d ⟨#[40]⟩ w h h1
    have e1 : Gram.expect T i [40] = .bad ((Gram.tk T i).at_ : Int) 12 := by unfold Gram.expect Gram.need Gram.fail; rw [if_neg (by rw [h1]; decide)]
    rw [e1]
    simp only [Gram.PR.bind, xsPost]
    clear hf e1 h hC
    go_enter Tryz.func169, Tryz.ntmps169
    go_wp2_with (first | (go_at_call 77; refine hA.mono ?_; rintro e w1 ⟨rfl, hg1⟩))
    exact ⟨rfl, rfl, hg1⟩
end

end Go.Proofs.YtachmiajldeakaaGreatDoor

/- gram's named: a variable or a call. -/
namespace Go.Proofs.YtachmiajldeakaaGreatDoor
open Go.RowKit Go.Maps Go.WideMaps

section
variable (b g cap : Nat) (rv : Value) (T : List Lex.Tk)

def namB (x : Lex.Tk) : Obj := .cells #[.int .i64 2, .int .i64 0, .string ⟨x.text.toArray⟩, .int .i64 0, .int .i64 0, .int .i64 0, .int .i64 0, .slice none 0 0, .int .i64 (x.at_ : Int)] 28

set_option maxHeartbeats 1600000 in
set_option maxRecDepth 20000 in
theorem gnamed_var (d i : Nat) (w : World) (h : Pa w b g cap rv T i d) (hn : Gram.isName T i = true) (hs : Gram.sees T (i + 1) [40] = false) :
    Calls Tryz.prog 144 #[.pointer (some ⟨b, 0, none⟩)] w fun e w' => ePost w b g cap rv T d (.ok (.mk 2 0 (Gram.tk T i).text 0 0 0 0 [] (Gram.tk T i).at_) (i + 1)) e w' := by
  have hbw := h.bl
  have hP0 := h.alloc exp0
  have hNx := gnext_any b g cap rv T i d _ hP0
  have hNm := fun wx (hx : (w.alloc exp0).grownBy wx none) => gname_yes b g cap rv T i d wx (hP0.kept hx) hn
  generalize Gram.tk T i = x at hNx hNm
  have hfa := fldAt x
  simp only [ePost, expV]
  have hSx := fun wx (hx : Pa wx b g cap rv T (i + 1) d) => gsees_any b g cap rv T (i + 1) d ⟨#[40]⟩ wx hx
  simp only [hs] at hSx
  have HH := Lib.hid h
  clear h hP0 hn hs
  go_enter Tryz.func144, Tryz.ntmps144
  go_wp2_with (first | (go_at_call 37; refine hNx.mono ?_; rintro e w1 ⟨rfl, hg1⟩) | (go_at_call 78; refine (hNm _ hg1).mono ?_; rintro e w2 ⟨rfl, hP2, hg2⟩; refine Hid.out ?_))
  have hgB : (w.alloc exp0).grownBy (w2.alloc (namB x)) (some b) := galloc ((grown_some hg1 b).trans hg2) _
  have hS := hSx _ (hP2.alloc (namB x))
  have hs2 := ((grown_some hg1 b).trans hg2).size
  rw [World.size_alloc] at hs2
  unfold namB at hS
  refine Lib.hid ?_
  go_wp2_with (first | (go_at_call 76; refine hS.mono ?_; rintro e w3 ⟨rfl, hg3⟩; refine Hid.out ?_))
  obtain ⟨z0, z1, z2, z3, z4, z5, z6, z7, z8, zf⟩ := Nc.of ((hg3.block w2.heap.size (by simp) (by simp)).trans (heap_alloc_new w2 _))
  have hgW : (w.alloc exp0).grownBy w3 (some b) := hgB.trans (grown_some hg3 b)
  refine Lib.hid ?_
  go_wp2_with (with_reducible refine hold_st 2 ?_)
  refine Lib.hid ?_
  refine wpList_store_gen rfl _ _ _ rfl w.heap.size _ rfl rfl 28 _ ((hgW.block w.heap.size (by simp) (by simp; omega)).trans (heap_alloc_new w exp0)) (by kernel_rfl) rfl (by simp [Value.oneCell']) ?_
  intro w4 hh4 hg4
  go_wp2
  (try simp only [Exit.inBlock, Exit.then])
  refine bodyPost_ret (results_cell_row rfl _ _ w.heap.size 28 _ (0, 0) _ rfl hh4 Tryz.underlying28 rfl (by kernel_rfl)) rfl ?_
  have hG : w.grownBy w4 (some b) := ((grown_some (World.grownBy_alloc w exp0 none) b).trans hgW).andThen hg4 (fun j e => .inl (by cases e; exact Nat.le_refl _))
  exact ⟨_, rfl, Kids.nil _ _, HH.out.to hG (((hP2.alloc (namB x)).st.kept (grown_some hg3 w.heap.size) (by simp; omega)).kept hg4 (by simp; omega)) hP2.lt, hG⟩

set_option maxHeartbeats 1600000 in
set_option maxRecDepth 20000 in
theorem gnamed_call (f : Nat) (hC : ∀ f', f' < f → CExp b g cap rv T f') (d i : Nat) (w : World) (h : Pa w b g cap rv T i d) (hn : Gram.isName T i = true) (hs : Gram.sees T (i + 1) [40] = true) (hf : (Gram.args T (f + 1) d (i + 1)).isFuel = false) :
    Calls Tryz.prog 144 #[.pointer (some ⟨b, 0, none⟩)] w fun e w' => ePost w b g cap rv T d ((Gram.args T (f + 1) d (i + 1)).bind fun l k => .ok (.mk 13 0 (Gram.tk T i).text 0 0 0 0 l (Gram.tk T i).at_) k) e w' := by
  have hbw := h.bl
  have hP0 := h.alloc exp0
  have hNx := gnext_any b g cap rv T i d _ hP0
  have hNm := fun wx (hx : (w.alloc exp0).grownBy wx none) => gname_yes b g cap rv T i d wx (hP0.kept hx) hn
  generalize Gram.tk T i = x at hNx hNm
  have hfa := fldAt x
  have hSx := fun wx (hx : Pa wx b g cap rv T (i + 1) d) => gsees_any b g cap rv T (i + 1) d ⟨#[40]⟩ wx hx
  simp only [hs] at hSx
  have HH := Lib.hid h
  have hAx := fun wx (hx : Pa wx b g cap rv T (i + 1) d) => gargs_any b g cap rv T f hC d (i + 1) wx hx hf
  clear hC
  generalize Gram.args T (f + 1) d (i + 1) = R at hf hAx ⊢
  clear h hP0 hn hs
  go_enter Tryz.func144, Tryz.ntmps144
  go_wp2_with (first | (go_at_call 37; refine hNx.mono ?_; rintro e w1 ⟨rfl, hg1⟩) | (go_at_call 78; refine (hNm _ hg1).mono ?_; rintro e w2 ⟨rfl, hP2, hg2⟩; refine Hid.out ?_))
  have hgB : (w.alloc exp0).grownBy (w2.alloc (namB x)) (some b) := galloc ((grown_some hg1 b).trans hg2) _
  have hS := hSx _ (hP2.alloc (namB x))
  have hs2 := ((grown_some hg1 b).trans hg2).size
  rw [World.size_alloc] at hs2
  unfold namB at hS
  refine Lib.hid ?_
  go_wp2_with (first | (go_at_call 76; refine hS.mono ?_; rintro e w3 ⟨rfl, hg3⟩; refine Hid.out ?_))
  obtain ⟨z0, z1, z2, z3, z4, z5, z6, z7, z8, zf⟩ := Nc.of ((hg3.block w2.heap.size (by simp) (by simp)).trans (heap_alloc_new w2 _))
  have hB3 := (hg3.block w2.heap.size (by simp) (by simp)).trans (heap_alloc_new w2 _)
  have hgW : (w.alloc exp0).grownBy w3 (some b) := hgB.trans (grown_some hg3 b)
  have hs3 := hg3.size
  rw [World.size_alloc] at hs3
  obtain ⟨W, hW⟩ : ∃ W, W = w3.setCell ⟨w2.heap.size, 0, none⟩ (.int .i64 13) := ⟨_, rfl⟩
  have hgS : w3.grownBy W (some w2.heap.size) := by rw [hW]; exact grown_set w3 _ _
  have hgV : (w.alloc exp0).grownBy W (some b) := hgW.andThen hgS (fun j e => .inl (by cases e; simp; omega))
  have hgw : w.grownBy W (some b) := (grown_some (World.grownBy_alloc w exp0 none) b).trans hgV
  have hPW : Pa W b g cap rv T (i + 1) d := HH.out.to hgw (((hP2.alloc (namB x)).st.kept (grown_some hg3 w2.heap.size) (by simp; omega)).kept hgS (by simp; omega)) hP2.lt
  have hB4 : W.heap[w2.heap.size]? = some (.cells #[.int .i64 13, .int .i64 0, .string ⟨x.text.toArray⟩, .int .i64 0, .int .i64 0, .int .i64 0, .int .i64 0, .slice none 0 0, .int .i64 (x.at_ : Int)] 28 (0, 0)) := by
    rw [hW]; exact heap_setCell_same w3 w2.heap.size 0 _ _ (.int .i64 13) hB3
  have hA := hAx _ hPW
  have hsV := hgS.size
  rw [hW] at hA
  have HW := Lib.hid hW
  clear hW hAx
  cases R with
  | fuel => cases hf
  | bad a er =>
    simp only [xsPost] at hA
    refine Lib.hid ?_
    go_wp2_with (first | (go_at_call 169; refine hA.mono ?_; rintro e w4 ⟨rfl, hg4⟩))
    rw [← HW.out] at hg4
    exact ⟨rfl, rfl, hgw.trans hg4⟩
  | ok l k =>
    simp only [xsPost] at hA
    refine Lib.hid ?_
    go_wp2_with (first | (go_at_call 169; refine hA.mono ?_; rintro e w4 ⟨v4, rfl, hk4, hP4, hg4⟩; refine Hid.out ?_))
    rw [← HW.out] at hg4 hk4
    obtain ⟨ka, kn, kc, rfl⟩ := hk4.form
    have hB5 := (hg4.block w2.heap.size (by omega) (by simp; omega)).trans hB4
    obtain ⟨y0, y1, y2, y3, y4, y5, y6, y7, y8, yf⟩ := Nc.of hB5
    have hs4 := hg4.size
    obtain ⟨W5, hW5⟩ : ∃ W5, W5 = w4.setCell ⟨w2.heap.size, 7, none⟩ (.slice ka kn kc) := ⟨_, rfl⟩
    have hg5 : w4.grownBy W5 (some w2.heap.size) := by rw [hW5]; exact grown_set w4 _ _
    have hgX : (w.alloc exp0).grownBy W5 (some b) := (hgV.trans hg4).andThen hg5 (fun j e => .inl (by cases e; simp; omega))
    have hgX2 := hgX
    rw [hW5] at hgX
    refine Lib.hid ?_
    go_wp2_with (with_reducible refine hold_st 2 ?_)
    refine Lib.hid ?_
    refine wpList_store_gen rfl _ _ _ rfl w.heap.size _ rfl rfl 28 _ ((hgX.block w.heap.size (by simp) (by simp; omega)).trans (heap_alloc_new w exp0)) (by kernel_rfl) rfl (by simp [Value.oneCell']) ?_
    intro w6 hh6 hg6
    go_wp2
    (try simp only [Exit.inBlock, Exit.then])
    refine bodyPost_ret (results_cell_row rfl _ _ w.heap.size 28 _ (0, 0) _ rfl hh6 Tryz.underlying28 rfl (by kernel_rfl)) rfl ?_
    rw [← hW5] at hg6
    have hG : w.grownBy w6 (some b) := ((grown_some (World.grownBy_alloc w exp0 none) b).trans hgX2).andThen hg6 (fun j e => .inl (by cases e; exact Nat.le_refl _))
    exact ⟨_, rfl, (((hk4.kids.kept hg5 (by omega)).kept hg6 (by omega)).mono (by omega)), HH.out.to hG ((hP4.st.kept hg5 (by simp; omega)).kept hg6 (by simp; omega)) hP4.lt, hG⟩
end

end Go.Proofs.YtachmiajldeakaaGreatDoor

/- gram's parts that fill one field of a form. -/
namespace Go.Proofs.YtachmiajldeakaaGreatDoor
open Go.RowKit Go.Maps Go.WideMaps

section
variable (b g cap : Nat) (rv : Value) (T : List Lex.Tk) (i d : Nat)

set_option maxHeartbeats 800000 in
set_option maxRecDepth 20000 in
theorem gsizeN_yes (q : Nat) (v0 v1 v2 v3 v4 v5 v6 v7 v8 : Value) (w : World) (h : Pa w b g cap rv T i d) (hqb : q ≠ b) (hq : w.heap[q]? = some (.cells #[v0, v1, v2, v3, v4, v5, v6, v7, v8] 28 (0, 0))) (hs : (Gram.isNum T i && ((Gram.tk T i).t == 0)) = true) :
    Calls Tryz.prog 178 #[.pointer (some ⟨b, 0, none⟩), .pointer (some ⟨q, 0, none⟩)] w fun e w' => e = .returned (.tuple #[]) ∧ w'.heap[q]? = some (.cells #[v0, v1, v2, v3, v4, .int .i64 (Gram.tk T i).n, v6, v7, v8] 28 (0, 0)) ∧ ∃ w1, Pa w1 b g cap rv T (i + 1) d ∧ w.grownBy w1 (some b) ∧ w1.grownBy w' (some q) := by
  have hz := gsize_yes b g cap rv T i d w h hs
  have hql : q < w.heap.size := (Array.getElem?_eq_some_iff.1 hq).1
  have hbw := h.bl
  clear h
  go_enter Tryz.func178, Tryz.ntmps178
  go_wp2_with (first | (go_at_call 142; refine hz.mono ?_; rintro e w1 ⟨rfl, hP1, hg1⟩; refine Hid.out ?_))
  have hq1 := (hg1.block q hql (by simp; omega)).trans hq
  obtain ⟨z0, z1, z2, z3, z4, z5, z6, z7, z8, zf⟩ := Nc.of hq1
  refine Lib.hid ?_
  go_wp2
  go_end0
  exact ⟨rfl, heap_setCell_same w1 q 5 _ _ _ hq1, w1, hP1, hg1, grown_set w1 _ _⟩

set_option maxHeartbeats 800000 in
set_option maxRecDepth 20000 in
theorem gsizeN_no (q : Nat) (w : World) (h : Pa w b g cap rv T i d) (hs : (Gram.isNum T i && ((Gram.tk T i).t == 0)) = false) :
    Calls Tryz.prog 178 #[.pointer (some ⟨b, 0, none⟩), .pointer (some ⟨q, 0, none⟩)] w fun e w' => gBad w b ((Gram.tk T i).at_ : Int) 12 e w' := by
  have hz := gsize_no b g cap rv T i d w h hs
  clear h
  go_enter Tryz.func178, Tryz.ntmps178
  go_wp2_with (first | (go_at_call 142; refine hz.mono ?_; rintro e w1 ⟨rfl, hg1⟩))
  exact ⟨rfl, rfl, hg1⟩

set_option maxHeartbeats 800000 in
set_option maxRecDepth 20000 in
theorem gsizeM_yes (q : Nat) (v0 v1 v2 v3 v4 v5 v6 v7 v8 : Value) (w : World) (h : Pa w b g cap rv T i d) (hqb : q ≠ b) (hq : w.heap[q]? = some (.cells #[v0, v1, v2, v3, v4, v5, v6, v7, v8] 28 (0, 0))) (hs : (Gram.isNum T i && ((Gram.tk T i).t == 0)) = true) :
    Calls Tryz.prog 179 #[.pointer (some ⟨b, 0, none⟩), .pointer (some ⟨q, 0, none⟩)] w fun e w' => e = .returned (.tuple #[]) ∧ w'.heap[q]? = some (.cells #[v0, v1, v2, v3, v4, v5, .int .i64 (Gram.tk T i).n, v7, v8] 28 (0, 0)) ∧ ∃ w1, Pa w1 b g cap rv T (i + 1) d ∧ w.grownBy w1 (some b) ∧ w1.grownBy w' (some q) := by
  have hz := gsize_yes b g cap rv T i d w h hs
  have hql : q < w.heap.size := (Array.getElem?_eq_some_iff.1 hq).1
  have hbw := h.bl
  clear h
  go_enter Tryz.func179, Tryz.ntmps179
  go_wp2_with (first | (go_at_call 142; refine hz.mono ?_; rintro e w1 ⟨rfl, hP1, hg1⟩; refine Hid.out ?_))
  have hq1 := (hg1.block q hql (by simp; omega)).trans hq
  obtain ⟨z0, z1, z2, z3, z4, z5, z6, z7, z8, zf⟩ := Nc.of hq1
  refine Lib.hid ?_
  go_wp2
  go_end0
  exact ⟨rfl, heap_setCell_same w1 q 6 _ _ _ hq1, w1, hP1, hg1, grown_set w1 _ _⟩

set_option maxHeartbeats 800000 in
set_option maxRecDepth 20000 in
theorem gsizeM_no (q : Nat) (w : World) (h : Pa w b g cap rv T i d) (hs : (Gram.isNum T i && ((Gram.tk T i).t == 0)) = false) :
    Calls Tryz.prog 179 #[.pointer (some ⟨b, 0, none⟩), .pointer (some ⟨q, 0, none⟩)] w fun e w' => gBad w b ((Gram.tk T i).at_ : Int) 12 e w' := by
  have hz := gsize_no b g cap rv T i d w h hs
  clear h
  go_enter Tryz.func179, Tryz.ntmps179
  go_wp2_with (first | (go_at_call 142; refine hz.mono ?_; rintro e w1 ⟨rfl, hg1⟩))
  exact ⟨rfl, rfl, hg1⟩

set_option maxHeartbeats 800000 in
set_option maxRecDepth 20000 in
theorem gnameOf_yes (q : Nat) (v0 v1 v2 v3 v4 v5 v6 v7 v8 : Value) (w : World) (h : Pa w b g cap rv T i d) (hqb : q ≠ b) (hq : w.heap[q]? = some (.cells #[v0, v1, v2, v3, v4, v5, v6, v7, v8] 28 (0, 0))) (hs : Gram.isName T i = true) :
    Calls Tryz.prog 181 #[.pointer (some ⟨b, 0, none⟩), .pointer (some ⟨q, 0, none⟩)] w fun e w' => e = .returned (.tuple #[]) ∧ w'.heap[q]? = some (.cells #[v0, v1, .string ⟨(Gram.tk T i).text.toArray⟩, v3, v4, v5, v6, v7, v8] 28 (0, 0)) ∧ ∃ w1, Pa w1 b g cap rv T (i + 1) d ∧ w.grownBy w1 (some b) ∧ w1.grownBy w' (some q) := by
  have hz := gname_yes b g cap rv T i d w h hs
  have hql : q < w.heap.size := (Array.getElem?_eq_some_iff.1 hq).1
  have hbw := h.bl
  clear h
  go_enter Tryz.func181, Tryz.ntmps181
  go_wp2_with (first | (go_at_call 78; refine hz.mono ?_; rintro e w1 ⟨rfl, hP1, hg1⟩; refine Hid.out ?_))
  have hq1 := (hg1.block q hql (by simp; omega)).trans hq
  obtain ⟨z0, z1, z2, z3, z4, z5, z6, z7, z8, zf⟩ := Nc.of hq1
  refine Lib.hid ?_
  go_wp2
  go_end0
  exact ⟨rfl, heap_setCell_same w1 q 2 _ _ _ hq1, w1, hP1, hg1, grown_set w1 _ _⟩

set_option maxHeartbeats 800000 in
set_option maxRecDepth 20000 in
theorem gnameOf_no (q : Nat) (w : World) (h : Pa w b g cap rv T i d) (hs : Gram.isName T i = false) :
    Calls Tryz.prog 181 #[.pointer (some ⟨b, 0, none⟩), .pointer (some ⟨q, 0, none⟩)] w fun e w' => gBad w b ((Gram.tk T i).at_ : Int) 12 e w' := by
  have hz := gname_no b g cap rv T i d w h hs
  clear h
  go_enter Tryz.func181, Tryz.ntmps181
  go_wp2_with (first | (go_at_call 78; refine hz.mono ?_; rintro e w1 ⟨rfl, hg1⟩))
  exact ⟨rfl, rfl, hg1⟩

set_option maxHeartbeats 800000 in
set_option maxRecDepth 20000 in
theorem gkindTo_yes (q : Nat) (v0 v1 v2 v3 v4 v5 v6 v7 v8 : Value) (w : World) (h : Pa w b g cap rv T i d) (hqb : q ≠ b) (hq : w.heap[q]? = some (.cells #[v0, v1, v2, v3, v4, v5, v6, v7, v8] 28 (0, 0))) (hs : (Lex.kindOf (Gram.tk T i).text != 0) = true) :
    Calls Tryz.prog 177 #[.pointer (some ⟨b, 0, none⟩), .pointer (some ⟨q, 0, none⟩)] w fun e w' => e = .returned (.tuple #[]) ∧ w'.heap[q]? = some (.cells #[v0, v1, v2, .int .i64 (Lex.kindOf (Gram.tk T i).text), v4, v5, v6, v7, v8] 28 (0, 0)) ∧ ∃ w1, Pa w1 b g cap rv T (i + 1) d ∧ w.grownBy w1 (some b) ∧ w1.grownBy w' (some q) := by
  have hz := gkind_yes b g cap rv T i d w h hs
  have hql : q < w.heap.size := (Array.getElem?_eq_some_iff.1 hq).1
  have hbw := h.bl
  clear h
  go_enter Tryz.func177, Tryz.ntmps177
  go_wp2_with (first | (go_at_call 183; refine hz.mono ?_; rintro e w1 ⟨rfl, hP1, hg1⟩; refine Hid.out ?_))
  have hq1 := (hg1.block q hql (by simp; omega)).trans hq
  obtain ⟨z0, z1, z2, z3, z4, z5, z6, z7, z8, zf⟩ := Nc.of hq1
  refine Lib.hid ?_
  go_wp2
  go_end0
  exact ⟨rfl, heap_setCell_same w1 q 3 _ _ _ hq1, w1, hP1, hg1, grown_set w1 _ _⟩

set_option maxHeartbeats 800000 in
set_option maxRecDepth 20000 in
theorem gkindTo_no (q : Nat) (w : World) (h : Pa w b g cap rv T i d) (hs : (Lex.kindOf (Gram.tk T i).text != 0) = false) :
    Calls Tryz.prog 177 #[.pointer (some ⟨b, 0, none⟩), .pointer (some ⟨q, 0, none⟩)] w fun e w' => gBad w b ((Gram.tk T i).at_ : Int) 12 e w' := by
  have hz := gkind_no b g cap rv T i d w h hs
  clear h
  go_enter Tryz.func177, Tryz.ntmps177
  go_wp2_with (first | (go_at_call 183; refine hz.mono ?_; rintro e w1 ⟨rfl, hg1⟩))
  exact ⟨rfl, rfl, hg1⟩

end

end Go.Proofs.YtachmiajldeakaaGreatDoor

/- gram's kids and edgeOf. -/
namespace Go.Proofs.YtachmiajldeakaaGreatDoor
open Go.RowKit Go.Maps Go.WideMaps

section
variable (b g cap : Nat) (rv : Value) (T : List Lex.Tk) (d : Nat)

set_option maxHeartbeats 800000 in
set_option maxRecDepth 20000 in
theorem gkids_ok (f : Nat) (hC : ∀ f', f' < f → CExp b g cap rv T f') (i q : Nat) (v0 v1 v2 v3 v4 v5 v6 v7 v8 : Value) (w : World) (h : Pa w b g cap rv T i d) (hqb : q ≠ b) (hq : w.heap[q]? = some (.cells #[v0, v1, v2, v3, v4, v5, v6, v7, v8] 28 (0, 0))) (l : List Gram.Exp) (k : Nat) (hs : Gram.exps T f d [] i = .ok l k) :
    Calls Tryz.prog 182 #[.pointer (some ⟨b, 0, none⟩), .pointer (some ⟨q, 0, none⟩)] w fun e w' => e = .returned (.tuple #[]) ∧ ∃ v w1, w'.heap[q]? = some (.cells #[v0, v1, v2, v3, v4, v5, v6, v, v8] 28 (0, 0)) ∧ Growing w1 w.heap.size l v ∧ Pa w1 b g cap rv T k d ∧ w.grownBy w1 (some b) ∧ w1.grownBy w' (some q) := by
  have hz := gexps_any b g cap rv T f hC d i w h (by rw [hs]; rfl)
  rw [hs] at hz
  simp only [xsPost] at hz
  have hql : q < w.heap.size := (Array.getElem?_eq_some_iff.1 hq).1
  clear h hC hs
  go_enter Tryz.func182, Tryz.ntmps182
  go_wp2_with (first | (go_at_call 172; refine hz.mono ?_; rintro e w1 ⟨v, rfl, hk1, hP1, hg1⟩; refine Hid.out ?_))
  obtain ⟨ka, kn, kc, rfl⟩ := hk1.form
  have hq1 := (hg1.block q hql (by simp; omega)).trans hq
  obtain ⟨z0, z1, z2, z3, z4, z5, z6, z7, z8, zf⟩ := Nc.of hq1
  refine Lib.hid ?_
  go_wp2
  go_end0
  exact ⟨rfl, _, w1, heap_setCell_same w1 q 7 _ _ _ hq1, hk1, hP1, hg1, grown_set w1 _ _⟩

set_option maxHeartbeats 800000 in
set_option maxRecDepth 20000 in
theorem gkids_bad (f : Nat) (hC : ∀ f', f' < f → CExp b g cap rv T f') (i q : Nat) (w : World) (h : Pa w b g cap rv T i d) (a er : Int) (hs : Gram.exps T f d [] i = .bad a er) :
    Calls Tryz.prog 182 #[.pointer (some ⟨b, 0, none⟩), .pointer (some ⟨q, 0, none⟩)] w fun e w' => gBad w b a er e w' := by
  have hz := gexps_any b g cap rv T f hC d i w h (by rw [hs]; rfl)
  rw [hs] at hz
  simp only [xsPost] at hz
  clear h hC hs
  go_enter Tryz.func182, Tryz.ntmps182
  go_wp2_with (first | (go_at_call 172; refine hz.mono ?_; rintro e w1 ⟨rfl, hg1⟩))
  exact ⟨rfl, rfl, hg1⟩

set_option maxHeartbeats 800000 in
set_option maxRecDepth 20000 in
theorem gedgeOf_ok (i q : Nat) (v0 v1 v2 v3 v4 v5 v6 v7 v8 : Value) (w : World) (h : Pa w b g cap rv T i d) (hqb : q ≠ b) (hq : w.heap[q]? = some (.cells #[v0, v1, v2, v3, v4, v5, v6, v7, v8] 28 (0, 0))) (nm : Gram.B) (on : Bool) (k : Nat) (hs : Gram.edge T i = .ok ⟨nm, on⟩ k) :
    Calls Tryz.prog 176 #[.pointer (some ⟨b, 0, none⟩), .pointer (some ⟨q, 0, none⟩)] w fun e w' => e = .returned (.tuple #[]) ∧ w'.heap[q]? = some (.cells #[v0, v1, .string ⟨nm.toArray⟩, v3, v4, if on then .int .i64 1 else v5, v6, v7, v8] 28 (0, 0)) ∧ ∃ w1, Pa w1 b g cap rv T k d ∧ w.grownBy w1 (some b) ∧ w1.grownBy w' (some q) := by
  have hz := gedge_any b g cap rv T i d w h
  rw [hs] at hz
  simp only [edPost] at hz
  have hql : q < w.heap.size := (Array.getElem?_eq_some_iff.1 hq).1
  clear h hs
  cases on
  all_goals go_enter Tryz.func176, Tryz.ntmps176
  all_goals go_wp2_with (first | (go_at_call 150; refine hz.mono ?_; rintro e w1 ⟨rfl, hP1, hg1⟩; refine Hid.out ?_))
  all_goals have hq1 := fun o => ((galloc hg1 o).block q hql (by simp; omega)).trans hq
  all_goals have hs1 := hg1.size
  all_goals have hne : ¬ q = w1.heap.size := by omega
  all_goals have hne2 : ¬ w1.heap.size = q := by omega
  · obtain ⟨z0, z1, z2, z3, z4, z5, z6, z7, z8, zf⟩ := Nc.of (hq1 (.cells #[.string ⟨nm.toArray⟩, .bool false] 150))
    refine Lib.hid ?_
    go_wp2
    go_end0
    exact ⟨rfl, heap_setCell_same _ q 2 _ _ _ (hq1 _), w1.alloc _, hP1.alloc _, galloc hg1 _, grown_set _ _ _⟩
  · obtain ⟨z0, z1, z2, z3, z4, z5, z6, z7, z8, zf⟩ := Nc.of (hq1 (.cells #[.string ⟨nm.toArray⟩, .bool true] 150))
    refine Lib.hid ?_
    go_wp2
    go_end0
    exact ⟨rfl, heap_setCell_same _ q 5 _ _ _ (heap_setCell_same _ q 2 _ _ _ (hq1 _)), w1.alloc _, hP1.alloc _, galloc hg1 _, World.grownBy.trans (grown_set _ ⟨q, 2, none⟩ _) (grown_set _ ⟨q, 5, none⟩ _)⟩

set_option maxHeartbeats 800000 in
set_option maxRecDepth 20000 in
theorem gedgeOf_bad (i q : Nat) (w : World) (h : Pa w b g cap rv T i d) (a er : Int) (hs : Gram.edge T i = .bad a er) :
    Calls Tryz.prog 176 #[.pointer (some ⟨b, 0, none⟩), .pointer (some ⟨q, 0, none⟩)] w fun e w' => gBad w b a er e w' := by
  have hz := gedge_any b g cap rv T i d w h
  rw [hs] at hz
  simp only [edPost] at hz
  clear h hs
  go_enter Tryz.func176, Tryz.ntmps176
  go_wp2_with (first | (go_at_call 150; refine hz.mono ?_; rintro e w1 ⟨rfl, hg1⟩))
  exact ⟨rfl, rfl, hg1⟩
end

end Go.Proofs.YtachmiajldeakaaGreatDoor

/- gram's call (of a reset). -/
namespace Go.Proofs.YtachmiajldeakaaGreatDoor
open Go.RowKit Go.Maps Go.WideMaps

section
variable (b g cap : Nat) (rv : Value) (T : List Lex.Tk) (d : Nat)

set_option maxHeartbeats 800000 in
set_option maxRecDepth 20000 in
theorem gcall_no (i q : Nat) (w : World) (h : Pa w b g cap rv T i d) (hn : Gram.isName T i = false) :
    Calls Tryz.prog 180 #[.pointer (some ⟨b, 0, none⟩), .pointer (some ⟨q, 0, none⟩)] w fun e w' => gBad w b ((Gram.tk T i).at_ : Int) 12 e w' := by
  have hz := gname_no b g cap rv T i d w h hn
  clear h
  go_enter Tryz.func180, Tryz.ntmps180
  go_wp2_with (first | (go_at_call 78; refine hz.mono ?_; rintro e w1 ⟨rfl, hg1⟩))
  exact ⟨rfl, rfl, hg1⟩

set_option maxHeartbeats 1600000 in
set_option maxRecDepth 20000 in
/-- q lies behind what the parser stands on: B -/
theorem gcall_yes (f : Nat) (hC : ∀ f', f' < f → CExp b g cap rv T f') (i q : Nat) (v0 v1 v2 v3 v4 v5 v6 v7 v8 : Value) (w0 w : World) (h00 : ∃ i0, Pa w0 b g cap rv T i0 d) (hg0 : w0.grownBy w (some b)) (hq0 : w0.heap.size ≤ q) (h : Pa w b g cap rv T i d) (hq : w.heap[q]? = some (.cells #[v0, v1, v2, v3, v4, v5, v6, v7, v8] 28 (0, 0))) (hn : Gram.isName T i = true) (hf : (Gram.args T (f + 1) d (i + 1)).isFuel = false) :
    Calls Tryz.prog 180 #[.pointer (some ⟨b, 0, none⟩), .pointer (some ⟨q, 0, none⟩)] w fun e w' =>
      match Gram.args T (f + 1) d (i + 1) with
      | .ok l k => e = .returned (.tuple #[]) ∧ ∃ v w1, w'.heap[q]? = some (.cells #[v0, v1, .string ⟨(Gram.tk T i).text.toArray⟩, v3, v4, v5, v6, v, v8] 28 (0, 0)) ∧ Growing w1 w.heap.size l v ∧ Pa w1 b g cap rv T k d ∧ w0.grownBy w1 (some b) ∧ w1.grownBy w' (some q) ∧ w.heap.size ≤ w'.heap.size ∧ ∀ k, k < w.heap.size → k ≠ b → k ≠ q → w'.heap[k]? = w.heap[k]?
      | .bad a er => gBad w0 b a er e w'
      | .fuel => False := by
  have hz := gname_yes b g cap rv T i d w h hn
  have hql : q < w.heap.size := (Array.getElem?_eq_some_iff.1 hq).1
  obtain ⟨i0, h0⟩ := h00
  have hbw := h0.bl
  have hqb : some q ≠ some b := by simp; omega
  have HH := Lib.hid h0
  have hAx := fun wx (hx : Pa wx b g cap rv T (i + 1) d) => gargs_any b g cap rv T f hC d (i + 1) wx hx hf
  clear hC h h0 hn
  generalize Gram.tk T i = x at hz ⊢
  cases hR : Gram.args T (f + 1) d (i + 1) with
  | fuel => rw [hR] at hf; cases hf
  | bad a er =>
    simp only [hR, xsPost] at hAx
    clear hf hR
    go_enter Tryz.func180, Tryz.ntmps180
    go_wp2_with (first | (go_at_call 78; refine hz.mono ?_; rintro e w1 ⟨rfl, hP1, hg1⟩; refine Hid.out ?_))
    have hq1 := (hg1.block q hql hqb).trans hq
    obtain ⟨z0, z1, z2, z3, z4, z5, z6, z7, z8, zf⟩ := Nc.of hq1
    have hgS := fun u => ((hg0.trans hg1).andThen (grown_set w1 ⟨q, 2, none⟩ u) (fun j e => .inl (by cases e; exact hq0)))
    have hA := fun u => hAx _ (HH.out.to (hgS u) (hP1.st.kept (grown_set w1 ⟨q, 2, none⟩ u) (by simp; omega)) hP1.lt)
    refine Lib.hid ?_
    go_wp2_with (first | (go_at_call 169; refine (hA _).mono ?_; rintro e w3 ⟨rfl, hg3⟩))
    exact ⟨rfl, rfl, (hgS _).trans hg3⟩
  | ok l k =>
    simp only [hR, xsPost] at hAx
    clear hf hR
    go_enter Tryz.func180, Tryz.ntmps180
    go_wp2_with (first | (go_at_call 78; refine hz.mono ?_; rintro e w1 ⟨rfl, hP1, hg1⟩; refine Hid.out ?_))
    have hq1 := (hg1.block q hql hqb).trans hq
    obtain ⟨z0, z1, z2, z3, z4, z5, z6, z7, z8, zf⟩ := Nc.of hq1
    have hs1 := hg1.size
    have hgS := fun u => ((hg0.trans hg1).andThen (grown_set w1 ⟨q, 2, none⟩ u) (fun j e => .inl (by cases e; exact hq0)))
    have hA := fun u => hAx _ (HH.out.to (hgS u) (hP1.st.kept (grown_set w1 ⟨q, 2, none⟩ u) (by simp; omega)) hP1.lt)
    refine Lib.hid ?_
    go_wp2_with (first | (go_at_call 169; refine (hA _).mono ?_; rintro e w3 ⟨v, rfl, hk3, hP3, hg3⟩; refine Hid.out ?_))
    obtain ⟨ka, kn, kc, rfl⟩ := hk3.form
    have hq3 := (hg3.block q (by simp; omega) hqb).trans (heap_setCell_same w1 q 2 _ _ _ hq1)
    obtain ⟨y0, y1, y2, y3, y4, y5, y6, y7, y8, yf⟩ := Nc.of hq3
    refine Lib.hid ?_
    go_wp2
    go_end0
    refine ⟨rfl, _, w3, heap_setCell_same w3 q 7 _ _ _ hq3, hk3.mono (by simp; omega), hP3, (hgS _).trans hg3, grown_set w3 _ _, by have h3 := hg3.size; simp at h3 ⊢; omega, fun k hk hkb hkq => ?_⟩
    refine ((grown_set w3 ⟨q, 7, none⟩ _).block k (by have := hg3.size; simp at this; omega) (by simpa using hkq)).trans ?_
    refine (hg3.block k (by simp; omega) (by simpa using hkb)).trans ?_
    exact ((grown_set w1 ⟨q, 2, none⟩ _).block k (by omega) (by simpa using hkq)).trans (hg1.block k hk (by simpa using hkb))
end

end Go.Proofs.YtachmiajldeakaaGreatDoor

/- gram's prefixed. -/
namespace Go.Proofs.YtachmiajldeakaaGreatDoor
open Go.RowKit Go.Maps Go.WideMaps

section
variable (b g cap : Nat) (rv : Value) (T : List Lex.Tk)

set_option maxHeartbeats 1600000 in
set_option maxRecDepth 20000 in
theorem gprefixed_pre (i d : Nat) (R : Gram.PR Gram.Exp) (hRf : R.isFuel = false) (w : World) (h : Pa w b g cap rv T i d) (hs : Gram.sees T i [112, 114, 101] = true) (hT : ∀ wx, Pa wx b g cap rv T (i + 1) d → Calls Tryz.prog 141 #[.pointer (some ⟨b, 0, none⟩)] wx fun e w' => ePost wx b g cap rv T d R e w') :
    Calls Tryz.prog 117 #[.pointer (some ⟨b, 0, none⟩)] w fun e w' => ePost w b g cap rv T d (R.bind fun y k => .ok (.mk 6 0 [] 0 0 0 0 [y] (Gram.tk T i).at_) k) e w' := by
  have hbw := h.bl
  have hi := h.nextSees hs (by decide)
  have ht := gtake_any b g cap rv T i d _ (h.alloc exp0) hi
  have htx : (Gram.tk T i).text = [112, 114, 101] := by simpa [Gram.sees] using hs
  have hxx : tokV (Gram.tk T i) = .agg #[.int .i64 (Gram.tk T i).kind, .string ⟨#[112, 114, 101]⟩, .int .i64 (Gram.tk T i).n, .int .i64 (Gram.tk T i).t, .int .i64 0, .int .i64 ((Gram.tk T i).at_ : Int)] := by rw [← show (Gram.tk T i).text.toArray = #[112, 114, 101] by rw [htx]]; rfl
  rw [hxx] at ht
  generalize Gram.tk T i = x at ht ⊢
  have HH := Lib.hid h
  clear h hxx htx hs
  go_enter Tryz.func117, Tryz.ntmps117
  go_wp2_with (first | (go_at_call 120; refine ht.mono ?_; rintro e w1 ⟨rfl, hP1, hg1⟩; refine Hid.out ?_))
  have hs1 := hg1.size
  rw [World.size_alloc] at hs1
  cases R with
  | fuel => cases hRf
  | bad a er =>
    have hT2 := fun o p => hT _ ((hP1.alloc o).alloc p)
    simp only [ePost] at hT2
    refine Lib.hid ?_
    go_wp2_with (first | (go_at_call 141; refine (hT2 _ _).mono ?_; rintro e w5 ⟨rfl, hg5⟩))
    exact ⟨rfl, rfl, (grown_some (World.grownBy_alloc w exp0 none) b).trans ((galloc (galloc hg1 _) _).trans hg5)⟩
  | ok y k =>
    cases y with
    | mk f2 s2 nm2 tk2 tl2 n2 m2 ks2 a2 =>
    have hT2 := fun o p => hT _ ((hP1.alloc o).alloc p)
    simp only [ePost, expV] at hT2
    refine Lib.hid ?_
    go_wp2_with (first | (go_at_call 141; refine (hT2 _ _).mono ?_; rintro e w5 ⟨k5, rfl, hk5, hP5, hg5⟩; refine Hid.out ?_))
    obtain ⟨ka, kn, kc, rfl⟩ := hk5.form
    have hs5 := hg5.size
    simp only [World.size_alloc] at hs5 hk5
    have hq5 := fun o => ((galloc hg5 o).block (w1.heap.size + 1) (by simp) (by simp; omega)).trans (heap_alloc2_new w1 _ _)
    obtain ⟨LB, hLB⟩ : ∃ LB : Obj, LB = .cells #[.int .i64 f2, .int .i64 s2, .string ⟨nm2.toArray⟩, .int .i64 tk2, .int .i64 tl2, .int .i64 n2, .int .i64 m2, .slice ka kn kc, .int .i64 a2] 28 := ⟨_, rfl⟩
    have hq6 := hq5 LB
    have hgL : (w.alloc exp0).grownBy (w5.alloc LB) (some b) := galloc ((galloc (galloc hg1 _) _).trans hg5) LB
    have hoL : (w5.alloc LB).ownsRow (w1.heap.size + 1 + 1) 28 9 (.slice (some ⟨w5.heap.size, 0, none⟩) 1 1) 1 (expCells (.mk f2 s2 nm2 tk2 tl2 n2 m2 ks2 a2) (.slice ka kn kc)) := by rw [hLB]; exact owns_new 28 9 1 (expCells (.mk f2 s2 nm2 tk2 tl2 n2 m2 ks2 a2) (.slice ka kn kc)) (by omega) rfl (by unfold maxLen; omega)
    have hkL : Kids (w5.alloc LB) (w1.heap.size + 1 + 1) [.mk f2 s2 nm2 tk2 tl2 n2 m2 ks2 a2] (.slice (some ⟨w5.heap.size, 0, none⟩) 1 1) := Kids.one hoL (hk5.kept0 (World.grownBy_alloc w5 LB none))
    have hPL := hP5.alloc LB
    rw [hLB] at hq6 hgL hkL hPL
    obtain ⟨z0, z1, z2, z3, z4, z5, z6, z7, z8, zf⟩ := Nc.of hq6
    clear hoL hLB
    have hgX := hgL.andThen (grown_set _ ⟨w1.heap.size + 1, 7, none⟩ (.slice (some ⟨w5.heap.size, 0, none⟩) 1 1)) (fun j e => .inl (by cases e; simp; omega))
    refine Lib.hid ?_
    go_wp2_with (with_reducible refine hold_st 2 ?_)
    refine Lib.hid ?_
    refine wpList_store_gen rfl _ _ _ rfl w.heap.size _ rfl rfl 28 _ ((hgX.block w.heap.size (by simp) (by simp; omega)).trans (heap_alloc_new w exp0)) (by kernel_rfl) rfl (by simp [Value.oneCell']) ?_
    intro w7 hh7 hg7
    go_wp2
    (try simp only [Exit.inBlock, Exit.then])
    refine bodyPost_ret (results_cell_row rfl _ _ w.heap.size 28 _ (0, 0) _ rfl hh7 Tryz.underlying28 rfl (by kernel_rfl)) rfl ?_
    have hG : w.grownBy w7 (some b) := ((grown_some (World.grownBy_alloc w exp0 none) b).trans hgX).andThen hg7 (fun j e => .inl (by cases e; exact Nat.le_refl _))
    exact ⟨_, rfl, ((hkL.kept (grown_set _ ⟨w1.heap.size + 1, 7, none⟩ _) (by simp)).kept hg7 (by omega)).mono (by omega), HH.out.to hG ((hPL.st.kept (grown_set _ ⟨w1.heap.size + 1, 7, none⟩ _) (by simp; omega)).kept hg7 (by simp; omega)) hP5.lt, hG⟩

set_option maxHeartbeats 1600000 in
set_option maxRecDepth 20000 in
theorem gprefixed_not (i d : Nat) (R : Gram.PR Gram.Exp) (hRf : R.isFuel = false) (w : World) (h : Pa w b g cap rv T i d) (hs : Gram.sees T i [110, 111, 116] = true) (hT : ∀ wx, Pa wx b g cap rv T (i + 1) d → Calls Tryz.prog 141 #[.pointer (some ⟨b, 0, none⟩)] wx fun e w' => ePost wx b g cap rv T d R e w') :
    Calls Tryz.prog 117 #[.pointer (some ⟨b, 0, none⟩)] w fun e w' => ePost w b g cap rv T d (R.bind fun y k => .ok (.mk 3 1 [] 0 0 0 0 [y] (Gram.tk T i).at_) k) e w' := by
  have hbw := h.bl
  have hi := h.nextSees hs (by decide)
  have ht := gtake_any b g cap rv T i d _ (h.alloc exp0) hi
  have htx : (Gram.tk T i).text = [110, 111, 116] := by simpa [Gram.sees] using hs
  have hxx : tokV (Gram.tk T i) = .agg #[.int .i64 (Gram.tk T i).kind, .string ⟨#[110, 111, 116]⟩, .int .i64 (Gram.tk T i).n, .int .i64 (Gram.tk T i).t, .int .i64 0, .int .i64 ((Gram.tk T i).at_ : Int)] := by rw [← show (Gram.tk T i).text.toArray = #[110, 111, 116] by rw [htx]]; rfl
  rw [hxx] at ht
  generalize Gram.tk T i = x at ht ⊢
  have HH := Lib.hid h
  clear h hxx htx hs
  go_enter Tryz.func117, Tryz.ntmps117
  go_wp2_with (first | (go_at_call 120; refine ht.mono ?_; rintro e w1 ⟨rfl, hP1, hg1⟩; refine Hid.out ?_))
  have hs1 := hg1.size
  rw [World.size_alloc] at hs1
  cases R with
  | fuel => cases hRf
  | bad a er =>
    have hT2 := fun o p => hT _ ((hP1.alloc o).alloc p)
    simp only [ePost] at hT2
    refine Lib.hid ?_
    go_wp2_with (first | (go_at_call 141; refine (hT2 _ _).mono ?_; rintro e w5 ⟨rfl, hg5⟩))
    exact ⟨rfl, rfl, (grown_some (World.grownBy_alloc w exp0 none) b).trans ((galloc (galloc hg1 _) _).trans hg5)⟩
  | ok y k =>
    cases y with
    | mk f2 s2 nm2 tk2 tl2 n2 m2 ks2 a2 =>
    have hT2 := fun o p => hT _ ((hP1.alloc o).alloc p)
    simp only [ePost, expV] at hT2
    refine Lib.hid ?_
    go_wp2_with (first | (go_at_call 141; refine (hT2 _ _).mono ?_; rintro e w5 ⟨k5, rfl, hk5, hP5, hg5⟩; refine Hid.out ?_))
    obtain ⟨ka, kn, kc, rfl⟩ := hk5.form
    have hs5 := hg5.size
    simp only [World.size_alloc] at hs5 hk5
    have hq5 := fun o => ((galloc hg5 o).block (w1.heap.size + 1) (by simp) (by simp; omega)).trans (heap_alloc2_new w1 _ _)
    obtain ⟨LB, hLB⟩ : ∃ LB : Obj, LB = .cells #[.int .i64 f2, .int .i64 s2, .string ⟨nm2.toArray⟩, .int .i64 tk2, .int .i64 tl2, .int .i64 n2, .int .i64 m2, .slice ka kn kc, .int .i64 a2] 28 := ⟨_, rfl⟩
    have hq6 := hq5 LB
    have hgL : (w.alloc exp0).grownBy (w5.alloc LB) (some b) := galloc ((galloc (galloc hg1 _) _).trans hg5) LB
    have hoL : (w5.alloc LB).ownsRow (w1.heap.size + 1 + 1) 28 9 (.slice (some ⟨w5.heap.size, 0, none⟩) 1 1) 1 (expCells (.mk f2 s2 nm2 tk2 tl2 n2 m2 ks2 a2) (.slice ka kn kc)) := by rw [hLB]; exact owns_new 28 9 1 (expCells (.mk f2 s2 nm2 tk2 tl2 n2 m2 ks2 a2) (.slice ka kn kc)) (by omega) rfl (by unfold maxLen; omega)
    have hkL : Kids (w5.alloc LB) (w1.heap.size + 1 + 1) [.mk f2 s2 nm2 tk2 tl2 n2 m2 ks2 a2] (.slice (some ⟨w5.heap.size, 0, none⟩) 1 1) := Kids.one hoL (hk5.kept0 (World.grownBy_alloc w5 LB none))
    have hPL := hP5.alloc LB
    rw [hLB] at hq6 hgL hkL hPL
    obtain ⟨z0, z1, z2, z3, z4, z5, z6, z7, z8, zf⟩ := Nc.of hq6
    clear hoL hLB
    have hgX := hgL.andThen (grown_set _ ⟨w1.heap.size + 1, 7, none⟩ (.slice (some ⟨w5.heap.size, 0, none⟩) 1 1)) (fun j e => .inl (by cases e; simp; omega))
    refine Lib.hid ?_
    go_wp2_with (with_reducible refine hold_st 2 ?_)
    refine Lib.hid ?_
    refine wpList_store_gen rfl _ _ _ rfl w.heap.size _ rfl rfl 28 _ ((hgX.block w.heap.size (by simp) (by simp; omega)).trans (heap_alloc_new w exp0)) (by kernel_rfl) rfl (by simp [Value.oneCell']) ?_
    intro w7 hh7 hg7
    go_wp2
    (try simp only [Exit.inBlock, Exit.then])
    refine bodyPost_ret (results_cell_row rfl _ _ w.heap.size 28 _ (0, 0) _ rfl hh7 Tryz.underlying28 rfl (by kernel_rfl)) rfl ?_
    have hG : w.grownBy w7 (some b) := ((grown_some (World.grownBy_alloc w exp0 none) b).trans hgX).andThen hg7 (fun j e => .inl (by cases e; exact Nat.le_refl _))
    exact ⟨_, rfl, ((hkL.kept (grown_set _ ⟨w1.heap.size + 1, 7, none⟩ _) (by simp)).kept hg7 (by omega)).mono (by omega), HH.out.to hG ((hPL.st.kept (grown_set _ ⟨w1.heap.size + 1, 7, none⟩ _) (by simp; omega)).kept hg7 (by simp; omega)) hP5.lt, hG⟩

set_option maxHeartbeats 1600000 in
set_option maxRecDepth 20000 in
theorem gprefixed_neg (i d : Nat) (R : Gram.PR Gram.Exp) (hRf : R.isFuel = false) (w : World) (h : Pa w b g cap rv T i d) (hs : Gram.sees T i [45] = true) (hv : Gram.isVal T (i + 1) = false) (hT : ∀ wx, Pa wx b g cap rv T (i + 1) d → Calls Tryz.prog 141 #[.pointer (some ⟨b, 0, none⟩)] wx fun e w' => ePost wx b g cap rv T d R e w') :
    Calls Tryz.prog 117 #[.pointer (some ⟨b, 0, none⟩)] w fun e w' => ePost w b g cap rv T d (R.bind fun y k => .ok (.mk 3 2 [] 0 0 0 0 [y] (Gram.tk T i).at_) k) e w' := by
  have hbw := h.bl
  have hi := h.nextSees hs (by decide)
  have ht := gtake_any b g cap rv T i d _ (h.alloc exp0) hi
  have htx : (Gram.tk T i).text = [45] := by simpa [Gram.sees] using hs
  have hxx : tokV (Gram.tk T i) = .agg #[.int .i64 (Gram.tk T i).kind, .string ⟨#[45]⟩, .int .i64 (Gram.tk T i).n, .int .i64 (Gram.tk T i).t, .int .i64 0, .int .i64 ((Gram.tk T i).at_ : Int)] := by rw [← show (Gram.tk T i).text.toArray = #[45] by rw [htx]]; rfl
  rw [hxx] at ht
  have hVx := fun wx (hx : Pa wx b g cap rv T (i + 1) d) => gval_sees b g cap rv T (i + 1) d wx hx
  simp only [hv] at hVx
  generalize Gram.tk T i = x at ht ⊢
  have HH := Lib.hid h
  clear h hxx htx hs
  go_enter Tryz.func117, Tryz.ntmps117
  go_wp2_with (first | (go_at_call 120; refine ht.mono ?_; rintro e w1 ⟨rfl, hP1, hg1⟩; refine Hid.out ?_))
  have hs1 := hg1.size
  rw [World.size_alloc] at hs1
  refine Lib.hid ?_
  have hVy := fun o p => hVx _ ((hP1.alloc o).alloc p)
  go_wp2_with (first | (go_at_call 139; refine (hVy _ _).mono ?_; rintro e w2 ⟨rfl, hg2⟩; refine Hid.out ?_))
  have hs2 := hg2.size
  simp only [World.size_alloc] at hs2
  have hq2 := (hg2.block (w1.heap.size + 1) (by simp) (by simp)).trans (heap_alloc2_new w1 _ _)
  obtain ⟨y0, y1, y2, y3, y4, y5, y6, y7, y8, yf⟩ := Nc.of hq2
  obtain ⟨W, hW⟩ : ∃ W, W = w2.setCell ⟨w1.heap.size + 1, 1, none⟩ (.int .i64 2) := ⟨_, rfl⟩
  have hgS : w2.grownBy W (some (w1.heap.size + 1)) := by rw [hW]; exact grown_set w2 _ _
  have hg12 := (galloc (galloc hg1 _) _).trans (grown_some hg2 b)
  have hgV : (w.alloc exp0).grownBy W (some b) := hg12.andThen hgS (fun j e => .inl (by cases e; simp; omega))
  have hPW : Pa W b g cap rv T (i + 1) d := HH.out.to ((grown_some (World.grownBy_alloc w exp0 none) b).trans hgV) ((((hP1.alloc _).alloc _).st.kept (grown_some hg2 (w1.heap.size + 1)) (by simp; omega)).kept hgS (by simp; omega)) hP1.lt
  have hqW : W.heap[w1.heap.size + 1]? = some (.cells #[.int .i64 3, .int .i64 2, .string ⟨#[]⟩, .int .i64 0, .int .i64 0, .int .i64 0, .int .i64 0, .slice none 0 0, .int .i64 (x.at_ : Int)] 28 (0, 0)) := by
    rw [hW]; exact heap_setCell_same w2 (w1.heap.size + 1) 1 _ _ (.int .i64 2) hq2
  have hsW := hgS.size
  have hTW := hT _ hPW
  rw [hW] at hTW
  have HW := Lib.hid hW
  clear hW
  cases R with
  | fuel => cases hRf
  | bad a er =>
    have hT2 := hTW
    simp only [ePost] at hT2
    refine Lib.hid ?_
    go_wp2_with (first | (go_at_call 141; refine hT2.mono ?_; rintro e w5 ⟨rfl, hg5⟩))
    rw [← HW.out] at hg5
    exact ⟨rfl, rfl, (grown_some (World.grownBy_alloc w exp0 none) b).trans (hgV.trans hg5)⟩
  | ok y k =>
    cases y with
    | mk f2 s2 nm2 tk2 tl2 n2 m2 ks2 a2 =>
    have hT2 := hTW
    simp only [ePost, expV] at hT2
    refine Lib.hid ?_
    go_wp2_with (first | (go_at_call 141; refine hT2.mono ?_; rintro e w5 ⟨k5, rfl, hk5, hP5, hg5⟩; refine Hid.out ?_))
    rw [← HW.out] at hg5 hk5
    obtain ⟨ka, kn, kc, rfl⟩ := hk5.form
    have hs5 := hg5.size
    have hk5 : Kids w5 (w1.heap.size + 1 + 1) ks2 (.slice ka kn kc) := hk5.mono (by omega)
    have hq5 := fun o => ((galloc hg5 o).block (w1.heap.size + 1) (by omega) (by simp; omega)).trans hqW
    obtain ⟨LB, hLB⟩ : ∃ LB : Obj, LB = .cells #[.int .i64 f2, .int .i64 s2, .string ⟨nm2.toArray⟩, .int .i64 tk2, .int .i64 tl2, .int .i64 n2, .int .i64 m2, .slice ka kn kc, .int .i64 a2] 28 := ⟨_, rfl⟩
    have hq6 := hq5 LB
    have hgL : (w.alloc exp0).grownBy (w5.alloc LB) (some b) := galloc (hgV.trans hg5) LB
    have hoL : (w5.alloc LB).ownsRow (w1.heap.size + 1 + 1) 28 9 (.slice (some ⟨w5.heap.size, 0, none⟩) 1 1) 1 (expCells (.mk f2 s2 nm2 tk2 tl2 n2 m2 ks2 a2) (.slice ka kn kc)) := by rw [hLB]; exact owns_new 28 9 1 (expCells (.mk f2 s2 nm2 tk2 tl2 n2 m2 ks2 a2) (.slice ka kn kc)) (by omega) rfl (by unfold maxLen; omega)
    have hkL : Kids (w5.alloc LB) (w1.heap.size + 1 + 1) [.mk f2 s2 nm2 tk2 tl2 n2 m2 ks2 a2] (.slice (some ⟨w5.heap.size, 0, none⟩) 1 1) := Kids.one hoL (hk5.kept0 (World.grownBy_alloc w5 LB none))
    have hPL := hP5.alloc LB
    rw [hLB] at hq6 hgL hkL hPL
    obtain ⟨z0, z1, z2, z3, z4, z5, z6, z7, z8, zf⟩ := Nc.of hq6
    clear hoL hLB
    have hgX := hgL.andThen (grown_set _ ⟨w1.heap.size + 1, 7, none⟩ (.slice (some ⟨w5.heap.size, 0, none⟩) 1 1)) (fun j e => .inl (by cases e; simp; omega))
    refine Lib.hid ?_
    go_wp2_with (with_reducible refine hold_st 2 ?_)
    refine Lib.hid ?_
    refine wpList_store_gen rfl _ _ _ rfl w.heap.size _ rfl rfl 28 _ ((hgX.block w.heap.size (by simp) (by simp; omega)).trans (heap_alloc_new w exp0)) (by kernel_rfl) rfl (by simp [Value.oneCell']) ?_
    intro w7 hh7 hg7
    go_wp2
    (try simp only [Exit.inBlock, Exit.then])
    refine bodyPost_ret (results_cell_row rfl _ _ w.heap.size 28 _ (0, 0) _ rfl hh7 Tryz.underlying28 rfl (by kernel_rfl)) rfl ?_
    have hG : w.grownBy w7 (some b) := ((grown_some (World.grownBy_alloc w exp0 none) b).trans hgX).andThen hg7 (fun j e => .inl (by cases e; exact Nat.le_refl _))
    exact ⟨_, rfl, ((hkL.kept (grown_set _ ⟨w1.heap.size + 1, 7, none⟩ _) (by simp)).kept hg7 (by omega)).mono (by omega), HH.out.to hG ((hPL.st.kept (grown_set _ ⟨w1.heap.size + 1, 7, none⟩ _) (by simp; omega)).kept hg7 (by simp; omega)) hP5.lt, hG⟩

set_option maxHeartbeats 1600000 in
set_option maxRecDepth 20000 in
theorem gprefixed_val (f i d : Nat) (w : World) (h : Pa w b g cap rv T i d) (hs : Gram.sees T i [45] = true) (hv : Gram.isVal T (i + 1) = true) (hf : (Gram.indexed T f (Gram.literal (Gram.tk T (i + 1)).t (Bv.wrp (Gram.tk T (i + 1)).t (wrap64 (-(Gram.tk T (i + 1)).n))) (Gram.tk T i).at_) (i + 1 + 1)).isFuel = false) :
    Calls Tryz.prog 117 #[.pointer (some ⟨b, 0, none⟩)] w fun e w' => ePost w b g cap rv T d (Gram.indexed T f (Gram.literal (Gram.tk T (i + 1)).t (Bv.wrp (Gram.tk T (i + 1)).t (wrap64 (-(Gram.tk T (i + 1)).n))) (Gram.tk T i).at_) (i + 1 + 1)) e w' := by
  have hbw := h.bl
  have hi := h.nextSees hs (by decide)
  have ht := gtake_any b g cap rv T i d _ (h.alloc exp0) hi
  have htx : (Gram.tk T i).text = [45] := by simpa [Gram.sees] using hs
  have hxx : tokV (Gram.tk T i) = .agg #[.int .i64 (Gram.tk T i).kind, .string ⟨#[45]⟩, .int .i64 (Gram.tk T i).n, .int .i64 (Gram.tk T i).t, .int .i64 0, .int .i64 ((Gram.tk T i).at_ : Int)] := by rw [← show (Gram.tk T i).text.toArray = #[45] by rw [htx]]; rfl
  rw [hxx] at ht
  have hVx := fun wx (hx : Pa wx b g cap rv T (i + 1) d) => gval_sees b g cap rv T (i + 1) d wx hx
  simp only [hv] at hVx
  have hOx := fun wx (hx : Pa wx b g cap rv T (i + 1) d) => gopposite_any b g cap rv T (i + 1) d ((Gram.tk T i).at_ : Int) hv wx hx
  generalize Gram.tk T i = x at ht hOx hf ⊢
  generalize (Gram.tk T (i + 1)).t = t1 at hOx hf ⊢
  generalize Bv.wrp t1 (wrap64 (-(Gram.tk T (i + 1)).n)) = n1 at hOx hf ⊢
  have hIx := fun B k0 wx hB hbB hx hk0 => gindexed_any b g cap rv T f d (i + 1 + 1) B (Gram.literal t1 n1 x.at_) k0 wx hB hbB hx hk0 hf
  generalize Gram.indexed T f (Gram.literal t1 n1 x.at_) (i + 1 + 1) = R at hf hIx ⊢
  simp only [ePost, Gram.literal, expV] at hOx
  simp only [Gram.literal, expV] at hIx
  have HH := Lib.hid h
  clear h hxx htx hs hv
  go_enter Tryz.func117, Tryz.ntmps117
  go_wp2_with (first | (go_at_call 120; refine ht.mono ?_; rintro e w1 ⟨rfl, hP1, hg1⟩; refine Hid.out ?_))
  have hs1 := hg1.size
  rw [World.size_alloc] at hs1
  have hVy := fun o p => hVx _ ((hP1.alloc o).alloc p)
  refine Lib.hid ?_
  go_wp2_with (first | (go_at_call 139; refine (hVy _ _).mono ?_; rintro e w2 ⟨rfl, hg2⟩; refine Hid.out ?_))
  have hs2 := hg2.size
  simp only [World.size_alloc] at hs2
  have hq2 := (hg2.block w1.heap.size (by simp; omega) (by simp)).trans (heap_alloc2_old w1 _ _)
  obtain ⟨t0, t1', t2, t3, t4, t5⟩ := Tkb.c (show Tkb w2 w1.heap.size _ _ _ _ _ _ from hq2)
  have hg12 := (galloc (galloc hg1 _) _).trans (grown_some hg2 b)
  have hP2 := ((hP1.alloc _).alloc _).kept hg2
  have hO := hOx _ hP2
  refine Lib.hid ?_
  go_wp2_with (first | (go_at_call 140; refine hO.mono ?_; rintro e w3 ⟨k3, rfl, hk3, hP3, hg3⟩; refine Hid.out ?_))
  obtain ⟨ka, kn, kc, rfl⟩ := hk3.form
  have hs3 := hg3.size
  have hI := hIx w2.heap.size (.slice ka kn kc) w3 hs3 (by omega) hP3 hk3
  cases R with
  | fuel => cases hf
  | bad a er =>
    simp only [ePostB] at hI
    refine Lib.hid ?_
    go_wp2_with (first | (go_at_call 118; refine hI.mono ?_; rintro e w5 ⟨rfl, hg5⟩))
    exact ⟨rfl, rfl, (grown_some (World.grownBy_alloc w exp0 none) b).trans ((hg12.trans hg3).trans hg5)⟩
  | ok y k =>
    cases y with
    | mk f2 s2 nm2 tk2 tl2 n2 m2 ks2 a2 =>
    simp only [ePostB, expV] at hI
    refine Lib.hid ?_
    go_wp2_with (first | (go_at_call 118; refine hI.mono ?_; rintro e w5 ⟨k5, rfl, hk5, hP5, hg5⟩; obtain ⟨la, ln, lc, rfl⟩ := hk5.form) | (with_reducible refine hold_st 2 ?_))
    have hgX := (hg12.trans hg3).trans hg5
    refine Lib.hid ?_
    refine wpList_store_gen rfl _ _ _ rfl w.heap.size _ rfl rfl 28 _ ((hgX.block w.heap.size (by simp) (by simp; omega)).trans (heap_alloc_new w exp0)) (by kernel_rfl) rfl (by simp [Value.oneCell']) ?_
    intro w7 hh7 hg7
    go_wp2
    (try simp only [Exit.inBlock, Exit.then])
    refine bodyPost_ret (results_cell_row rfl _ _ w.heap.size 28 _ (0, 0) _ rfl hh7 Tryz.underlying28 rfl (by kernel_rfl)) rfl ?_
    have hG : w.grownBy w7 (some b) := ((grown_some (World.grownBy_alloc w exp0 none) b).trans hgX).andThen hg7 (fun j e => .inl (by cases e; exact Nat.le_refl _))
    exact ⟨_, rfl, (hk5.kept hg7 (by omega)).mono (by omega), HH.out.to hG (hP5.st.kept hg7 (by simp; omega)) hP5.lt, hG⟩

end

end Go.Proofs.YtachmiajldeakaaGreatDoor

/- gram's forms in parts: what each part does to a form that is being made. -/
namespace Go.Proofs.YtachmiajldeakaaGreatDoor
open Go.RowKit Go.Maps Go.WideMaps

namespace Gram
def Exp.n : Exp → Int | .mk _ _ _ _ _ n _ _ _ => n
def Exp.setKids : Exp → List Exp → Exp | .mk f s nm tk tl n m _ a, ks => .mk f s nm tk tl n m ks a
def Exp.setName : Exp → B → Exp | .mk f s _ tk tl n m ks a, nm => .mk f s nm tk tl n m ks a
def Exp.setN : Exp → Int → Exp | .mk f s nm tk tl _ m ks a, n => .mk f s nm tk tl n m ks a
def Exp.setM : Exp → Int → Exp | .mk f s nm tk tl n _ ks a, m => .mk f s nm tk tl n m ks a
def Exp.setTk : Exp → Int → Exp | .mk f s nm _ tl n m ks a, tk => .mk f s nm tk tl n m ks a
abbrev Step := Exp → Nat → PR Exp
def sKid (T : List Lex.Tk) (f d : Nat) : Step := fun x i => (exp T f d i).bind fun e j => .ok (x.setKids (x.kids ++ [e])) j
def sKids (T : List Lex.Tk) (f d : Nat) : Step := fun x i => (exps T f d [] i).bind fun l j => .ok (x.setKids l) j
def sName (T : List Lex.Tk) : Step := fun x i => (name T i).bind fun n j => .ok (x.setName n) j
def sKind (T : List Lex.Tk) : Step := fun x i => (kind T i).bind fun k j => .ok (x.setTk k) j
def sSizeN (T : List Lex.Tk) : Step := fun x i => (size T i).bind fun n j => .ok (x.setN n) j
def sSizeM (T : List Lex.Tk) : Step := fun x i => (size T i).bind fun n j => .ok (x.setM n) j
def sEdge (T : List Lex.Tk) : Step := fun x i => (edge T i).bind fun g j => .ok ((x.setName g.name).setN (if g.on then 1 else x.n)) j
def sCall (T : List Lex.Tk) (f d : Nat) : Step := fun x i => (name T i).bind fun n j => (args T f d j).bind fun l k => .ok ((x.setName n).setKids l) k
/-- parts in brackets, commas between -/
def parts (T : List Lex.Tk) : List Step → B → Step
  | [], _, x, i => (expect T i [41]).bind fun _ j => .ok x j
  | s :: r, s0, x, i => (expect T i s0).bind fun _ j => (s x j).bind fun y k => parts T r [44] y k
theorem exps_len (T : List Lex.Tk) (d : Nat) : ∀ (f : Nat) (acc : List Exp) (i : Nat) (l : List Exp) (j : Nat), exps T f d acc i = .ok l j → l.length ≤ 16
  | 0, acc, i, l, j, h => by unfold exps at h; cases h
  | f + 1, acc, i, l, j, h => by
    unfold exps need room at h
    split at h
    · split at h
      · cases h
      · rename_i hm
        cases hx : exp T f d i with
        | fuel => rw [hx] at h; cases h
        | bad => rw [hx] at h; cases h
        | ok e k =>
          rw [hx] at h
          simp only [PR.bind] at h
          split at h
          · exact exps_len T d f _ _ l j h
          · cases h; simp; omega
    · cases h
theorem PR.ok_bind {α β : Type} (x : α) (i : Nat) (f : α → Nat → PR β) : (PR.ok x i).bind f = f x i := rfl
theorem args_len (T : List Lex.Tk) (d f i : Nat) (l : List Exp) (j : Nat) (h : args T (f + 1) d i = .ok l j) : l.length ≤ 16 := by
  unfold args at h
  cases h1 : expect T i [40] with
  | fuel => rw [h1] at h; cases h
  | bad => rw [h1] at h; cases h
  | ok t k =>
    rw [h1, PR.ok_bind] at h
    by_cases hs : sees T k [41] = true
    · rw [if_pos hs, PR.ok_bind] at h
      cases h2 : expect T k [41] with
      | fuel => rw [h2] at h; cases h
      | bad => rw [h2] at h; cases h
      | ok t m => rw [h2] at h; cases h; simp
    · rw [if_neg hs] at h
      cases hx : exps T f d [] k with
      | fuel => rw [hx] at h; cases h
      | bad => rw [hx] at h; cases h
      | ok l2 m =>
        rw [hx, PR.ok_bind] at h
        have hl := exps_len T d f [] k l2 m hx
        cases h2 : expect T m [41] with
        | fuel => rw [h2] at h; cases h
        | bad => rw [h2] at h; cases h
        | ok t n => rw [h2] at h; cases h; exact hl
theorem PR.bind_assoc {α β γ : Type} (r : PR α) (f : α → Nat → PR β) (h : β → Nat → PR γ) : (r.bind f).bind h = r.bind fun x i => (f x i).bind h := by cases r <;> rfl
end Gram

/-- form x is under way in block q, made since w0; the parser stands at i -/
structure Fs (w0 w : World) (b g cap : Nat) (rv : Value) (T : List Lex.Tk) (q i d c B p : Nat) (PB : Obj) (x : Gram.Exp) (v : Value) : Prop where
  p0 : ∃ i0, Pa w0 b g cap rv T i0 d
  pa : Pa w b g cap rv T i d
  gr : w0.grownBy w (some b)
  lo : w0.heap.size ≤ q
  row : w.heap[q]? = some (.cells (expCells x v).toArray 28 (0, 0))
  qB : q < B
  pB : p < B
  pq : p ≠ q
  pb : p ≠ b
  Bs : B ≤ w.heap.size
  prow : w.heap[p]? = some PB
  gro : Growing w B x.kids v
  few : x.kids.length ≤ 20 * c
section
variable {w0 w w1 w' : World} {b g cap : Nat} {rv : Value} {T : List Lex.Tk} {q i j d c c' B p : Nat} {PB : Obj} {x y : Gram.Exp} {v u : Value}
theorem Fs.bl (h : Fs w0 w b g cap rv T q i d c B p PB x v) : b < w0.heap.size := by
  obtain ⟨i0, h0⟩ := h.p0
  exact h0.bl
theorem Fs.ql (h : Fs w0 w b g cap rv T q i d c B p PB x v) : q < w.heap.size := (Array.getElem?_eq_some_iff.1 h.row).1
theorem Fs.ne (h : Fs w0 w b g cap rv T q i d c B p PB x v) : q ≠ b := by have := h.bl; have := h.lo; omega
theorem Fs.pl (h : Fs w0 w b g cap rv T q i d c B p PB x v) : p < w.heap.size := (Array.getElem?_eq_some_iff.1 h.prow).1
theorem Fs.bB (h : Fs w0 w b g cap rv T q i d c B p PB x v) : b < B := by have := h.bl; have := h.lo; have := h.qB; omega
theorem Fs.on (h : Fs w0 w b g cap rv T q i d c B p PB x v) (hg : w.grownBy w' (some b)) (hp : Pa w' b g cap rv T j d) : Fs w0 w' b g cap rv T q j d c B p PB x v :=
  ⟨h.p0, hp, h.gr.trans hg, h.lo, (hg.block q h.ql (by have := h.ne; simpa using this)).trans h.row, h.qB, h.pB, h.pq, h.pb, Nat.le_trans h.Bs hg.size, (hg.block p h.pl (by have := h.pb; simpa using this)).trans h.prow, h.gro.keptB hg h.bB, h.few⟩
theorem Fs.kept0 (h : Fs w0 w b g cap rv T q i d c B p PB x v) (hg : w.grownBy w' none) : Fs w0 w' b g cap rv T q i d c B p PB x v := h.on (grown_some hg b) (h.pa.kept hg)
theorem Fs.put (h : Fs w0 w b g cap rv T q i d c B p PB x v) (hg1 : w.grownBy w1 (some b)) (hP1 : Pa w1 b g cap rv T j d) (hg2 : w1.grownBy w' (some q)) (hrow : w'.heap[q]? = some (.cells (expCells y u).toArray 28 (0, 0))) (hgro : Growing w1 B y.kids u) (hfew : y.kids.length ≤ 20 * c') : Fs w0 w' b g cap rv T q j d c' B p PB y u := by
  obtain ⟨i0, h0⟩ := h.p0
  have hG : w0.grownBy w' (some b) := (h.gr.trans hg1).andThen hg2 (fun k e => .inl (by cases e; exact h.lo))
  refine ⟨h.p0, h0.to hG (hP1.st.kept hg2 ?_) hP1.lt, hG, h.lo, hrow, h.qB, h.pB, h.pq, h.pb, Nat.le_trans h.Bs (Nat.le_trans hg1.size hg2.size), (hg2.block p (Nat.lt_of_lt_of_le h.pl hg1.size) (by have := h.pq; simpa using this)).trans ((hg1.block p h.pl (by have := h.pb; simpa using this)).trans h.prow), hgro.keptB hg2 h.qB, hfew⟩
  have := h.ne
  simp only [ne_eq, Option.some.injEq]
  omega
end
/-- what a part does to a form that is being made -/
def fPost (w0 : World) (b g cap : Nat) (rv : Value) (T : List Lex.Tk) (q d c B p : Nat) (PB : Obj) (r : Gram.PR Gram.Exp) (e : Ending) (w' : World) : Prop :=
  match r with
  | .ok y j => e = .returned (.tuple #[]) ∧ ∃ v, Fs w0 w' b g cap rv T q j d c B p PB y v
  | .bad a er => gBad w0 b a er e w'
  | .fuel => False
theorem gBad.since {w0 w w' : World} {b : Nat} {a er : Int} {e : Ending} (h : gBad w b a er e w') (hg : w0.grownBy w (some b)) : gBad w0 b a er e w' := ⟨h.1, hg.trans h.2⟩
/-- function n does that step -/
def CStep (b g cap : Nat) (rv : Value) (T : List Lex.Tk) (d n : Nat) (s : Gram.Step) : Prop :=
  ∀ (w0 w : World) (q i c B p : Nat) (PB : Obj) (x : Gram.Exp) (v : Value), c < 50 → Fs w0 w b g cap rv T q i d c B p PB x v → (s x i).isFuel = false →
    Calls Tryz.prog n #[.pointer (some ⟨b, 0, none⟩), .pointer (some ⟨q, 0, none⟩)] w fun e w' => fPost w0 b g cap rv T q d (c + 1) B p PB (s x i) e w'

section
variable (b g cap : Nat) (rv : Value) (T : List Lex.Tk) (d : Nat)

theorem cs_sizeN : CStep b g cap rv T d 178 (Gram.sSizeN T) := by
  intro w0 w q i c B p PB x v hc50 h hf
  cases x with
  | mk f1 s1 nm1 tk1 tl1 n1 m1 ks1 a1 =>
  unfold Gram.sSizeN Gram.size Gram.need
  rcases Bool.eq_false_or_eq_true (Gram.isNum T i && ((Gram.tk T i).t == 0)) with hs | hs
  · rw [if_pos hs]
    refine (gsizeN_yes b g cap rv T i d q _ _ _ _ _ _ _ _ _ w h.pa h.ne h.row hs).mono ?_
    rintro e w' ⟨rfl, hq, w1, hP1, hg1, hg2⟩
    exact ⟨rfl, v, h.put (y := .mk f1 s1 nm1 tk1 tl1 (Gram.tk T i).n m1 ks1 a1) hg1 hP1 hg2 hq (h.gro.keptB hg1 h.bB) (by have := h.few; simp only [Gram.Exp.kids] at this ⊢; omega)⟩
  · rw [if_neg (by rw [hs]; decide)]
    exact (gsizeN_no b g cap rv T i d q w h.pa hs).mono (fun e w' hb => hb.since h.gr)

theorem cs_sizeM : CStep b g cap rv T d 179 (Gram.sSizeM T) := by
  intro w0 w q i c B p PB x v hc50 h hf
  cases x with
  | mk f1 s1 nm1 tk1 tl1 n1 m1 ks1 a1 =>
  unfold Gram.sSizeM Gram.size Gram.need
  rcases Bool.eq_false_or_eq_true (Gram.isNum T i && ((Gram.tk T i).t == 0)) with hs | hs
  · rw [if_pos hs]
    refine (gsizeM_yes b g cap rv T i d q _ _ _ _ _ _ _ _ _ w h.pa h.ne h.row hs).mono ?_
    rintro e w' ⟨rfl, hq, w1, hP1, hg1, hg2⟩
    exact ⟨rfl, v, h.put (y := .mk f1 s1 nm1 tk1 tl1 n1 (Gram.tk T i).n ks1 a1) hg1 hP1 hg2 hq (h.gro.keptB hg1 h.bB) (by have := h.few; simp only [Gram.Exp.kids] at this ⊢; omega)⟩
  · rw [if_neg (by rw [hs]; decide)]
    exact (gsizeM_no b g cap rv T i d q w h.pa hs).mono (fun e w' hb => hb.since h.gr)

theorem cs_nameOf : CStep b g cap rv T d 181 (Gram.sName T) := by
  intro w0 w q i c B p PB x v hc50 h hf
  cases x with
  | mk f1 s1 nm1 tk1 tl1 n1 m1 ks1 a1 =>
  unfold Gram.sName Gram.name Gram.need
  rcases Bool.eq_false_or_eq_true (Gram.isName T i) with hs | hs
  · rw [if_pos hs]
    refine (gnameOf_yes b g cap rv T i d q _ _ _ _ _ _ _ _ _ w h.pa h.ne h.row hs).mono ?_
    rintro e w' ⟨rfl, hq, w1, hP1, hg1, hg2⟩
    exact ⟨rfl, v, h.put (y := .mk f1 s1 (Gram.tk T i).text tk1 tl1 n1 m1 ks1 a1) hg1 hP1 hg2 hq (h.gro.keptB hg1 h.bB) (by have := h.few; simp only [Gram.Exp.kids] at this ⊢; omega)⟩
  · rw [if_neg (by rw [hs]; decide)]
    exact (gnameOf_no b g cap rv T i d q w h.pa hs).mono (fun e w' hb => hb.since h.gr)

theorem cs_kindTo : CStep b g cap rv T d 177 (Gram.sKind T) := by
  intro w0 w q i c B p PB x v hc50 h hf
  cases x with
  | mk f1 s1 nm1 tk1 tl1 n1 m1 ks1 a1 =>
  unfold Gram.sKind Gram.kind Gram.need
  rcases Bool.eq_false_or_eq_true (Lex.kindOf (Gram.tk T i).text != 0) with hs | hs
  · rw [if_pos hs]
    refine (gkindTo_yes b g cap rv T i d q _ _ _ _ _ _ _ _ _ w h.pa h.ne h.row hs).mono ?_
    rintro e w' ⟨rfl, hq, w1, hP1, hg1, hg2⟩
    exact ⟨rfl, v, h.put (y := .mk f1 s1 nm1 (Lex.kindOf (Gram.tk T i).text) tl1 n1 m1 ks1 a1) hg1 hP1 hg2 hq (h.gro.keptB hg1 h.bB) (by have := h.few; simp only [Gram.Exp.kids] at this ⊢; omega)⟩
  · rw [if_neg (by rw [hs]; decide)]
    exact (gkindTo_no b g cap rv T i d q w h.pa hs).mono (fun e w' hb => hb.since h.gr)

theorem cs_edgeOf : CStep b g cap rv T d 176 (Gram.sEdge T) := by
  intro w0 w q i c B p PB x v hc50 h hf
  cases x with
  | mk f1 s1 nm1 tk1 tl1 n1 m1 ks1 a1 =>
  unfold Gram.sEdge at hf ⊢
  cases hs : Gram.edge T i with
  | fuel => rw [hs] at hf; cases hf
  | bad a er => exact (gedgeOf_bad b g cap rv T d i q w h.pa a er hs).mono (fun e w' hb => hb.since h.gr)
  | ok gg j =>
    obtain ⟨nm, on⟩ := gg
    refine (gedgeOf_ok b g cap rv T d i q _ _ _ _ _ _ _ _ _ w h.pa h.ne h.row nm on j hs).mono ?_
    rintro e w' ⟨rfl, hq, w1, hP1, hg1, hg2⟩
    refine ⟨rfl, v, h.put (y := .mk f1 s1 nm tk1 tl1 (if on then 1 else n1) m1 ks1 a1) hg1 hP1 hg2 ?_ (h.gro.keptB hg1 h.bB) (by have := h.few; simp only [Gram.Exp.kids] at this ⊢; omega)⟩
    cases on
    · exact hq
    · exact hq

theorem cs_kids (f : Nat) (hC : ∀ f', f' < f → CExp b g cap rv T f') : CStep b g cap rv T d 182 (Gram.sKids T f d) := by
  intro w0 w q i c B p PB x v hc50 h hf
  cases x with
  | mk f1 s1 nm1 tk1 tl1 n1 m1 ks1 a1 =>
  unfold Gram.sKids at hf ⊢
  cases hs : Gram.exps T f d [] i with
  | fuel => rw [hs] at hf; cases hf
  | bad a er => exact (gkids_bad b g cap rv T d f hC i q w h.pa a er hs).mono (fun e w' hb => hb.since h.gr)
  | ok l j =>
    refine (gkids_ok b g cap rv T d f hC i q _ _ _ _ _ _ _ _ _ w h.pa h.ne h.row l j hs).mono ?_
    rintro e w' ⟨rfl, u, w1, hq, hk, hP1, hg1, hg2⟩
    exact ⟨rfl, u, h.put (y := .mk f1 s1 nm1 tk1 tl1 n1 m1 l a1) hg1 hP1 hg2 hq (hk.mono h.Bs) (by have := Gram.exps_len T d f [] i l j hs; simp only [Gram.Exp.kids]; omega)⟩

theorem cs_call (f : Nat) (hC : ∀ f', f' < f → CExp b g cap rv T f') : CStep b g cap rv T d 180 (Gram.sCall T (f + 1) d) := by
  intro w0 w q i c B p PB x v hc50 h hf
  cases x with
  | mk f1 s1 nm1 tk1 tl1 n1 m1 ks1 a1 =>
  unfold Gram.sCall Gram.name Gram.need at hf ⊢
  rcases Bool.eq_false_or_eq_true (Gram.isName T i) with hs | hs
  · rw [if_pos hs] at hf ⊢
    rw [Gram.PR.ok_bind] at hf ⊢
    obtain ⟨i0, h0⟩ := h.p0
    have hfa : (Gram.args T (f + 1) d (i + 1)).isFuel = false := by
      cases hr : Gram.args T (f + 1) d (i + 1) with
      | fuel => rw [hr] at hf; cases hf
      | bad => rfl
      | ok => rfl
    have hc := gcall_yes b g cap rv T d f hC i q _ _ _ _ _ _ _ _ _ w0 w h.p0 h.gr h.lo h.pa h.row hs hfa
    cases hr : Gram.args T (f + 1) d (i + 1) with
    | fuel => rw [hr] at hf; cases hf
    | bad a er => rw [hr] at hc; exact hc
    | ok l k =>
      rw [hr] at hc
      refine hc.mono ?_
      rintro e w' ⟨rfl, u, w1, hq, hk, hP1, hg1, hg2, hsz3, hkept⟩
      refine ⟨rfl, u, ?_⟩
      have hp3 : w'.heap[p]? = some PB := (hkept p h.pl h.pb h.pq).trans h.prow
      have hG : w0.grownBy w' (some b) := hg1.andThen hg2 (fun k e => .inl (by cases e; exact h.lo))
      exact ⟨h.p0, h0.to hG (hP1.st.kept hg2 (by have := h.ne; simp only [ne_eq, Option.some.injEq]; omega)) hP1.lt, hG, h.lo, hq, h.qB, h.pB, h.pq, h.pb, Nat.le_trans h.Bs hsz3, hp3, (hk.mono h.Bs).keptB hg2 h.qB, by have := Gram.args_len T d f (i + 1) l k hr; simp only [Gram.Exp.kids, Gram.Exp.setKids, Gram.Exp.setName]; omega⟩
  · rw [if_neg (by rw [hs]; decide)]
    exact (gcall_no b g cap rv T d i q w h.pa hs).mono (fun e w' hb => hb.since h.gr)
end

end Go.Proofs.YtachmiajldeakaaGreatDoor
