/- My texts CsA CsB CsG TcX TcY TcZ TdA TdB CsC TlA, joined. -/
import Derived.Test.YtbbamgjdnibldaaGreatMhH
import Derived.Deep.CutRange
import Derived.Deep.DeepCutAuto
import Derived.Test.YtbbamgjdnibldaaGreatMhL
import Derived.Lib.AppendZeros
set_option linter.unusedVariables false
set_option linter.unusedSimpArgs false
set_option linter.unnecessarySimpa false
set_option linter.unusedSectionVars false
set_option maxHeartbeats 12800000
set_option maxRecDepth 20000
namespace Go.Proofs.YtbbamgjdnibldaaGreat
open Go.RowKit Go.Maps Go.WideMaps
namespace Ty
theorem nmL_at (A vars : List Gram.B) : ∀ (l : List Gram.Exp), (nmL A vars l).2 = 0 → ∀ (t : Nat) (k : Gram.Exp), l[t]? = some k → (nm A vars k).2 = 0
 | [], _, t, k, h => by simp at h
 | x :: r, h0, t, k, h => by
  simp only [nmL] at h0
  by_cases h1 : (nm A vars x).2 ≠ 0
  ·rw [if_pos h1] at h0; exact absurd h0 h1
  ·rw [if_neg h1] at h0
   cases t with
   | zero => simp at h; subst h; simpa using h1
   | succ t => exact nmL_at A vars r h0 t k (by simpa using h)
theorem nm_ok (A vars : List Gram.B) (f s : Int) (n : Gram.B) (tk tl nn mm : Int) (ks : List Gram.Exp) (a : Int) (h : (nm A vars (.mk f s n tk tl nn mm ks a)).2 = 0) :
  (Nam.uses f = true → vars.contains n = true) ∧ (Nam.calls f = true → A.contains n = true) ∧ (Nam.needsKid f = true → 1 ≤ ks.length) ∧ ∀ (t : Nat) (k : Gram.Exp), ks[t]? = some k → (nm A vars k).2 = 0 := by
 simp only [nm] at h
 split at h
 ·simp at h
 ·rename_i h1
  split at h
  ·simp at h
  ·rename_i h2
   split at h
   ·simp at h
   ·rename_i h3
    refine ⟨fun e => ?_, fun e => ?_, fun e => ?_, nmL_at A vars ks h⟩
    ·rw [e] at h1; simpa using h1
    ·rw [e] at h2; simpa using h2
    ·rw [e] at h3
     cases ks with
     | nil => simp at h3
     | cons => simp
end Ty
theorem kidLtR {ks : List Gram.Exp} {t : Nat} {k : Gram.Exp} (h : ks[t]? = some k) {f s : Int} {nm : List UInt8} {tk tl n m a : Int} : SizeOf.sizeOf k < SizeOf.sizeOf (Gram.Exp.mk f s nm tk tl n m ks a) := by
 have h1 := List.sizeOf_lt_of_mem (List.mem_of_getElem? h)
 simp only [Gram.Exp.mk.sizeOf_spec]
 omega
theorem Cb.kept {w w' : World} {b : Nat} {a : Option Addr} {L c : Nat} {x : Nam.F} (h : Cb w b a L c x) (hg : w.grownBy w' none) : Cb w' b a L c x := (hg.block b (gl h) (by simp)).trans h
section
variable {w0 : World} {l : List Gram.Node} {a : Option Addr} {L c : Nat} {vars : List (List UInt8)} {va : Option Addr} {vn vc k b : Nat}
def CNo (w0 : World) (l : List Gram.Node) (a : Option Addr) (L c : Nat) (vars : List (List UInt8)) (va : Option Addr) (vn vc k b m : Nat) : Prop :=
 ∀ (x : Gram.Exp), SizeOf.sizeOf x ≤ m → (Ty.nm ((l.take k).map Gram.Node.name) vars x).2 = 0 → ∀ (w : World) (ka : Option Addr) (kn kc : Nat), w0.grownBy w none → KidsX w0 0 [] x.kids (.slice ka kn kc) → StrL w va vars → Cb w b a L c (0, 0) →
  Calls Tryz.prog 39 #[.pointer (some ⟨b, 0, none⟩), .agg (expCells x (.slice ka kn kc)).toArray, .slice va vn vc, .int .i64 (k : Int)] w fun e w' => e = .returned (.tuple #[]) ∧ w.grownBy w' none
theorem isCallO (f : Int) (w : World) : Calls Tryz.prog 68 #[.int .i64 f] w fun e w' => e = .returned (.bool (Nam.calls f)) ∧ w' = w := by
 go_enter Tryz.func68, Tryz.ntmps68
 by_cases h1 : f = 13
 ·subst h1; go_wp2; go_ret; exact ⟨rfl, rfl⟩
 by_cases h2 : f = 14
 ·subst h2; go_wp2; go_ret; exact ⟨rfl, rfl⟩
 by_cases h3 : f = 18
 ·subst h3; go_wp2; go_ret; exact ⟨rfl, rfl⟩
 have b1 : (f == 13) = false := by simp [h1]
 have b2 : (f == 14) = false := by simp [h2]
 have b3 : (f == 18) = false := by simp [h3]
 have e : Nam.calls f = (f == 19) := by unfold Nam.calls; simp [b1, b2, b3]
 rw [e]
 clear e h1 h2 h3
 cases h4 : (f == 19) with
 | true => go_wp2; go_ret; exact ⟨rfl, rfl⟩
 | false => go_wp2; go_ret; exact ⟨rfl, rfl⟩
theorem cnamesO_step (hv : RepC w0 0 [] (.l 44 6 (l.map nodeD)) (.slice a L c)) (hvn : vn = vars.length) (hvm : vn ≤ 1000000) (hk : k ≤ 1000000) (m : Nat) (ih : CNo w0 l a L c vars va vn vc k b m) : CNo w0 l a L c vars va vn vc k b (m + 1) := by
 intro x hx hok w ka kn kc hg hkd hst hcb
 obtain ⟨f, s, nm, tk, tl, nn, mm, ks, at_⟩ := x
 simp only [Gram.Exp.kids] at hkd
 obtain ⟨hL, hLm⟩ := kidsLen hkd
 unfold maxLen at hLm
 simp only [expCells]
 obtain ⟨o1, o2, o3, o4⟩ := Ty.nm_ok _ _ f s nm tk tl nn mm ks at_ hok
 obtain ⟨W, hW⟩ : ∃ W, W = w.alloc (.cells #[.int .i64 f, .int .i64 s, .string ⟨nm.toArray⟩, .int .i64 tk, .int .i64 tl, .int .i64 nn, .int .i64 mm, .slice ka kn kc, .int .i64 at_] 85 (0, 0)) := ⟨_, rfl⟩
 have hg1 : w.grownBy W none := by rw [hW]; exact ga w _ none
 have hbx : W.heap[w.heap.size]? = some (.cells #[.int .i64 f, .int .i64 s, .string ⟨nm.toArray⟩, .int .i64 tk, .int .i64 tl, .int .i64 nn, .int .i64 mm, .slice ka kn kc, .int .i64 at_] 85 (0, 0)) := by rw [hW]; exact heap_alloc_new w _
 have hcb1 := hcb.kept hg1
 have hhas := has_any W va vn vc vars nm hvn hvm (hst.kept hg1)
 have p0 := cell_of_row W _ 0 _ _ _ hbx
 have p2 := cell_of_row W _ 2 _ _ _ hbx
 have p7 := cell_of_row W _ 7 _ _ _ hbx
 have HCN := ld (fun V (hV : W.grownBy V none) => cnode_any w0 V l a L c hv ((hg.trans hg1).trans hV) nm k hk)
 have cb0 := cell_of_row W _ 0 _ _ _ hcb1
 have hwl := gl hbx
 have hbl := gl hcb1
 have HW := ld hW
 have HO := ld (And.intro o1 (And.intro o2 (And.intro o3 o4)))
 have HH := ld (And.intro hst (And.intro hcb1 (And.intro hkd (And.intro hg (And.intro hg1 hbx)))))
 have HX := ld hx
 have HIH := ld ih
 have HL := ld hL
 clear hst hcb hkd hg hg1 hx ih hL hv hvn hW o1 o2 o3 o4 hok hcb1 hbx
 obtain ⟨th, hth⟩ : ∃ th, th = vars.contains nm := ⟨_, rfl⟩
 rw [← hth] at hhas
 have HTH := ld hth
 clear hth
 go_enter Tryz.func39, Tryz.ntmps39
 go_upto_region 1 with fail
 rw [← HW.out]
 go_cut [8] (fun x8 wx => x8 = .bool (Nam.uses f) ∧ W = wx)
 case first =>
  clear hhas
  by_cases h1 : f = 2
  ·subst h1; go_wp2; go_meet; exact ⟨rfl, rfl⟩
  by_cases h2 : f = 9
  ·subst h2; go_wp2; go_meet; exact ⟨rfl, rfl⟩
  have b1 : (f == 2) = false := by simp [h1]
  have b2 : (f == 9) = false := by simp [h2]
  have HE := ld (show Nam.uses f = (f == 10) by unfold Nam.uses; simp [b1, b2])
  clear h1 h2
  cases h3 : (f == 10) with
  | true => go_wp2; go_meet; exact ⟨by rw [HE.out, h3], rfl⟩
  | false => go_wp2; go_meet; exact ⟨by rw [HE.out, h3], rfl⟩
 case rest =>
  obtain ⟨rfl, rfl⟩ := hcut
  go_upto_region 3 with (go_at_call 21; refine hhas.mono ?_; rintro e w2 ⟨rfl, hw2⟩; obtain rfl := hw2.symm)
  go_cut [8, 9, 32] (fun x8 x9 x wx => x = .bool false ∧ W = wx)
  case first =>
   have h1 := HO.out.1
   rw [← HTH.out] at h1
   clear hhas
   cases hu : Nam.uses f with
   | true =>
    have h2 := h1 hu
    subst h2
    clear h1
    go_wp2; go_meet; exact ⟨rfl, rfl⟩
   | false =>
    clear h1
    go_wp2; go_meet; exact ⟨rfl, rfl⟩
  case rest =>
   obtain ⟨rfl, rfl⟩ := hcut
   go_upto_region 5 with fail
   go_cut [50] (fun x wx => x = .bool false ∧ Hid (W.grownBy wx none))
   case first =>
    cases hc : Nam.calls f with
    | true =>
     refine wp_region_L (S := fun V => W.grownBy V none) (Z := []) (by kernel_rfl) ?_
     have hS := gdrew (World.grownBy.refl W none)
     refine Wl.t1 0 37 (.pointer (some ⟨w.heap.size, 0, none⟩)) hS ?_
     (try simp only [Act.put, Wl.sA, Wl.sB, Wl.sC])
     refine Wl.t2 1 38 (.int .i64 f) (fun w' hw' => ?_) hS ?_
     ·have z0 := hw'.cell p0 (by simp); clear hw'; go_simp
     (try simp only [Act.put, Wl.sA, Wl.sB, Wl.sC])
     refine Wl.cg (R := fun v _ => v = .bool true) 2 39 68 #[.int .i64 f] hS ((isCallO f _).mono (by rintro e w' ⟨rfl, rfl⟩; exact ⟨_, rfl, by rw [hc], World.grownBy.refl _ _⟩)) ?_
     rintro u w5 rfl - hS
     (try simp only [Act.put, Wl.sA, Wl.sB, Wl.sC])
     refine Wl.t1 3 40 (.bool true) hS ?_
     (try simp only [Act.put, Wl.sA, Wl.sB, Wl.sC])
     refine Wl.t1 4 41 (.pointer (some ⟨b, 0, none⟩)) hS ?_
     (try simp only [Act.put, Wl.sA, Wl.sB, Wl.sC])
     refine Wl.t1 5 42 (.pointer (some ⟨b, 0, none⟩)) hS ?_
     (try simp only [Act.put, Wl.sA, Wl.sB, Wl.sC])
     refine Wl.t1 6 43 (.pointer (some ⟨b, 0, none⟩)) hS ?_
     (try simp only [Act.put, Wl.sA, Wl.sB, Wl.sC])
     refine Wl.t2 7 44 (.agg #[.slice a L c]) (fun w' hw' => ?_) hS ?_
     ·have z0 := hw'.cell cb0 (by simp); clear hw'; go_simp
     (try simp only [Act.put, Wl.sA, Wl.sB, Wl.sC])
     refine Wl.t1 8 45 (.pointer (some ⟨w.heap.size, 2, none⟩)) hS ?_
     (try simp only [Act.put, Wl.sA, Wl.sB, Wl.sC])
     refine Wl.t2 9 46 (.string ⟨nm.toArray⟩) (fun w' hw' => ?_) hS ?_
     ·have z0 := hw'.cell p2 (by simp); clear hw'; go_simp
     (try simp only [Act.put, Wl.sA, Wl.sB, Wl.sC])
     refine Wl.t1 10 47 (.int .i64 (k : Int)) hS ?_
     (try simp only [Act.put, Wl.sA, Wl.sB, Wl.sC])
     refine Wl.cg (R := fun v _ => ∃ r : Int, v = .int .i64 r ∧ decide (r < 0) = false) 11 48 19 #[.agg #[.slice a L c], .string ⟨nm.toArray⟩, .int .i64 (k : Int)] hS ((HCN.out _ hS).mono (by rintro e w' ⟨r, rfl, hr, hg⟩; exact ⟨_, rfl, ⟨r, rfl, by rw [HO.out.2.1 hc] at hr; rw [decide_eq_false_iff_not]; have := of_decide_eq_true hr.symm; omega⟩, hg⟩)) ?_
     rintro u w6 ⟨r, rfl, hrr⟩ - hS
     (try simp only [Act.put, Wl.sA, Wl.sB, Wl.sC])
     refine Wl.t2 12 49 (.bool false) (fun w' hw' => ?_) hS ?_
     ·clear hw'; go_simp
     (try simp only [Act.put, Wl.sA, Wl.sB, Wl.sC])
     refine Wl.t1 13 50 (.bool false) hS ?_
     (try simp only [Act.put, Wl.sA, Wl.sB, Wl.sC])
     refine wpL_done (by kernel_rfl) ?_ _
     have HS := ld hS
     clear hS p0 p2 p7 cb0 hrr
     go_wp2
     go_meet
     exact ⟨rfl, HS⟩
    | false =>
     have hic := isCallO f
     rw [hc] at hic
     go_quiet (first | (go_at_call 68; refine Calls.quiet_of_same (hic _)))
     go_wp2
     go_meet
     exact ⟨rfl, ld (gdrewN (World.grownBy.refl W none) _)⟩
   case rest =>
    obtain ⟨rfl, HG5⟩ := hcut
    obtain ⟨W5, rfl⟩ : ∃ W5, W5 = wc := ⟨_, rfl⟩
    have q0 := HG5.out.cell p0 (by simp)
    have q7 := HG5.out.cell p7 (by simp)
    go_upto_region 7 with fail
    go_cut [73] (fun x wx => x = .bool false ∧ W5 = wx)
    case first =>
     have h3 := HO.out.2.2.1
     rw [← HL.out] at h3
     by_cases h1 : f = 14
     ·have hn : decide ((kn : Int) < 1) = false := by have := h3 (by rw [h1]; rfl); simp; omega
      subst h1; clear h3; go_wp2; go_meet; exact ⟨rfl, rfl⟩
     by_cases h2 : f = 15
     ·have hn : decide ((kn : Int) < 1) = false := by have := h3 (by rw [h2]; rfl); simp; omega
      subst h2; clear h3; go_wp2; go_meet; exact ⟨rfl, rfl⟩
     by_cases h4 : f = 18
     ·have hn : decide ((kn : Int) < 1) = false := by have := h3 (by rw [h4]; rfl); simp; omega
      subst h4; clear h3; go_wp2; go_meet; exact ⟨rfl, rfl⟩
     have b1 : (f == 14) = false := by simp [h1]
     have b2 : (f == 15) = false := by simp [h2]
     have b3 : (f == 18) = false := by simp [h4]
     clear h1 h2 h3 h4
     go_wp2; go_meet; exact ⟨rfl, rfl⟩
    case rest =>
     obtain ⟨rfl, rfl⟩ := hcut
     clear q0 q7 p0 p2 p7 cb0 hhas HTH th
     go_wp2
     go_loopw [10] (fun iv wr => ∃ t : Nat, t ≤ kn ∧ iv = .int .i64 (t : Int) ∧ Hid (W.grownBy wr none)) (fun i _ => kn - (intOf i).toNat)
     case atStart => exact ⟨0, Nat.zero_le _, rfl, HG5⟩
     case round =>
      obtain ⟨t, ht, rfl, HQ⟩ := hrel
      obtain ⟨hst, hcb1, hkd, hg, hg1, hbx⟩ := HH.out
      have hcr := hcb1.kept HQ.out
      have z1 : wr.cell? ⟨b, 1, none⟩ = some (.int .i64 0) := cell_of_row wr _ 1 _ _ _ hcr
      have z7 := cell_of_row wr _ 7 _ _ _ ((HQ.out.block _ (gl hbx) (by simp)).trans hbx)
      by_cases hlt : t < kn
      ·obtain ⟨kd, hkt⟩ : ∃ kd, ks[t]? = some kd := ⟨_, List.getElem?_eq_getElem (by rw [← HL.out]; exact hlt)⟩
       obtain ⟨g, pa, pn, pc, rfl, hkk, hcs⟩ := expAt hkd hkt
       have hsz := kidLtR hkt (f := f) (s := s) (nm := nm) (tk := tk) (tl := tl) (n := nn) (m := mm) (a := at_)
       have hgr := (hg.trans hg1).trans HQ.out
       have hc := HIH.out kd (by have := HX.out; omega) (HO.out.2.2.2 t kd hkt) wr pa pn pc hgr hkk (hst.kept (hg1.trans HQ.out)) hcr
       cases kd with
       | mk f1 s1 nm1 tk1 tl1 n1 m1 ks1 a1 =>
       simp only [expCells] at hc hcs
       have v0 := hgr.cell (hcs 0 _ rfl) (by simp)
       have v1 := hgr.cell (hcs 1 _ rfl) (by simp)
       have v2 := hgr.cell (hcs 2 _ rfl) (by simp)
       have v3 := hgr.cell (hcs 3 _ rfl) (by simp)
       have v4 := hgr.cell (hcs 4 _ rfl) (by simp)
       have v5 := hgr.cell (hcs 5 _ rfl) (by simp)
       have v6 := hgr.cell (hcs 6 _ rfl) (by simp)
       have v7 := hgr.cell (hcs 7 _ rfl) (by simp)
       have v8 := hgr.cell (hcs 8 _ rfl) (by simp)
       rw [Nat.add_zero] at v0
       clear hcs hkk hgr hkt hsz hst hcb1 hkd hg hg1 hbx hcr
       go_wp2_with (go_at_call 39; refine hc.mono ?_; rintro e w9 ⟨rfl, hg9⟩; refine Hid.out ?_)
       have HF := ld (HQ.out.trans hg9)
       clear v0 v1 v2 v3 v4 v5 v6 v7 v8 z7 z1 hc hg9
       refine ld ?_
       go_wp2
       exact ⟨⟨t + 1, by omega, by go_num, HF⟩, by simp [intOf]; omega⟩
      ·have e : t = kn := by omega
       subst e
       have HF := ld (hg1.trans HQ.out)
       clear hst hcb1 hkd hg hg1 hbx hcr
       go_wp2
       go_end0
       exact ⟨rfl, HF.out⟩
theorem cnamesO_any (hv : RepC w0 0 [] (.l 44 6 (l.map nodeD)) (.slice a L c)) (hvn : vn = vars.length) (hvm : vn ≤ 1000000) (hk : k ≤ 1000000) : ∀ m, CNo w0 l a L c vars va vn vc k b m
 | 0 => fun x hx => by cases x; simp at hx
 | m + 1 => cnamesO_step hv hvn hvm hk m (cnamesO_any hv hvn hvm hk m)
end
namespace Ty
def nsOf : Gram.Item → List Gram.B
 | .mk ns _ _ _ => ns
def defs (l : List Gram.Item) : List Gram.B := (l.map nsOf).flatten
theorem eqn_ok (a : Int) (may : List Gram.B) : ∀ (l D : List Gram.B), (eqn a may l D).1.2 = 0 → (eqn a may l D).2 = D ++ l ∧ ∀ (u : Nat) (s : Gram.B), l[u]? = some s → may.contains s = true ∧ (D ++ l.take u).contains s = false
 | [], D => fun _ => ⟨by simp [eqn], fun u s h => by simp at h⟩
 | x :: r, D => by
  simp only [eqn]
  by_cases h1 : (!may.contains x) = true
  ·rw [if_pos h1]; intro e; simp at e
  ·rw [if_neg h1]
   by_cases h2 : D.contains x = true
   ·rw [if_pos h2]; intro e; simp at e
   ·rw [if_neg h2]
    intro e
    obtain ⟨e1, e2⟩ := eqn_ok a may r (D ++ [x]) e
    refine ⟨by rw [e1]; simp, fun u s h => ?_⟩
    cases u with
    | zero => simp at h; subst h; exact ⟨by simpa using h1, by simpa using h2⟩
    | succ u =>
     obtain ⟨q1, q2⟩ := e2 u s (by simpa using h)
     refine ⟨q1, ?_⟩
     rw [List.take_succ_cons]
     simpa using q2
theorem listN_ok (A vars may : List Gram.B) : ∀ (l : List Gram.Item) (D : List Gram.B), (listN A vars may l D).1.2 = 0 → (listN A vars may l D).2 = D ++ defs l ∧ ∀ (t : Nat) ns e ss at_, l[t]? = some (Gram.Item.mk ns e ss at_) → (nm A vars e).2 = 0 ∧ ∀ (u : Nat) (s : Gram.B), ns[u]? = some s → may.contains s = true ∧ (D ++ defs (l.take t) ++ ns.take u).contains s = false
 | [], D => fun _ => ⟨by simp [listN, defs], fun t ns e ss at_ h => by simp at h⟩
 | .mk ms e1 s1 a1 :: r, D => by
  simp only [listN]
  by_cases h1 : (eqn a1 may ms D).1.2 ≠ 0
  ·rw [if_pos h1]; exact fun e => absurd e h1
  ·rw [if_neg h1]
   obtain ⟨q1, q2⟩ := eqn_ok a1 may ms D (by simpa using h1)
   by_cases h2 : (nm A vars e1).2 ≠ 0
   ·rw [if_pos h2]; exact fun e => absurd e h2
   ·rw [if_neg h2, q1]
    intro e
    obtain ⟨i1, i2⟩ := listN_ok A vars may r (D ++ ms) e
    refine ⟨by rw [i1]; simp [defs, nsOf], fun t ns e ss at_ h => ?_⟩
    cases t with
    | zero =>
     simp at h
     obtain ⟨rfl, rfl, rfl, rfl⟩ := h
     exact ⟨by simpa using h2, fun u s h => by simpa [defs] using q2 u s h⟩
    | succ t =>
     obtain ⟨j1, j2⟩ := i2 t ns e ss at_ (by simpa using h)
     refine ⟨j1, fun u s h => ?_⟩
     have := j2 u s h
     simpa [defs, nsOf] using this
theorem defs_one (l : List Gram.Item) (t : Nat) (ns : List Gram.B) (e : Gram.Exp) (ss : List Gram.State) (at_ : Int) (h : l[t]? = some (.mk ns e ss at_)) : defs (l.take (t + 1)) = defs (l.take t) ++ ns := by
 unfold defs
 rw [List.take_add_one, h]
 simp [nsOf]
theorem defs_le (l : List Gram.Item) (t : Nat) : (defs (l.take t)).length ≤ (defs l).length := by
 unfold defs
 conv => rhs; rw [← List.take_append_drop t l]
 rw [List.map_append, List.flatten_append, List.length_append]; omega
end Ty
def strR (s : List UInt8) : Value := .string ⟨s.toArray⟩
theorem strOne (l : List (List UInt8)) : ∀ u ∈ l.map strR, u.oneCell' = true := by
 intro u hu
 obtain ⟨s, _, rfl⟩ := List.mem_map.1 hu
 rfl
theorem rowFormR {w : World} {B n : Nat} {e : TypeId} {sz : Nat} {v : Value} {xs : List Value} (h : w.ownsRow B e sz v n xs) : ∃ a c, v = .slice a n c := by
 rcases h.2 with ⟨rfl, rfl⟩ | ⟨g, cap, cur, rfl, _⟩
 ·exact ⟨_, _, rfl⟩
 ·exact ⟨_, _, rfl⟩
theorem run_appendR (w : World) (ty : TypeId) (B B2 : Nat) (v v2 : Value) (n m : Nat) (xs ys : List Value) (h : w.ownsRow B 9 1 v n xs) (h2 : w.ownsRow B2 9 1 v2 m ys) (hys : ∀ u ∈ ys, u.oneCell' = true) (hB : B ≤ w.heap.size) (hm : n + m ≤ 1000000) :
  ∃ v' w', (Builtin.append_ #[23, 23] ty #[v, v2]).run Tryz.prog w = .ok v' w' ∧ w'.ownsRow B 9 1 v' (n + m) (xs ++ ys) ∧ w.grownBy w' v.ownBlock := by
 obtain ⟨it, hit, hz, hsz, hby⟩ := infoP info_string
 have hm2 : n + m ≤ maxLen := by unfold maxLen; omega
 rcases h2.2 with ⟨rfl, h0⟩ | ⟨g, cap, cur, rfl, hb2, hh2, hc2⟩
 ·subst h0
  have hy : ys = [] := List.eq_nil_of_length_eq_zero (by simpa using h2.1)
  subst hy
  simp only [Nat.add_zero, List.append_nil]
  rcases h.2 with ⟨rfl, h0⟩ | ⟨g, cap, cur, rfl, hb1, hh1, hnc, hc1⟩
  ·refine ⟨_, w, ?_, h, World.grownBy.refl _ _⟩
   simp [Builtin.append_, run_underlying Tryz.underlying23, sizeOf, typeInfo, hit, Builtin.lenOf, Builtin.firstCells, loadCells, loadCellsFrom]
  ·refine ⟨_, w, ?_, h, World.grownBy.refl _ _⟩
   simp [Builtin.append_, run_underlying Tryz.underlying23, sizeOf, typeInfo, hit, Builtin.lenOf, Builtin.firstCells, loadCells, loadCellsFrom, hnc, storeCells]
 ·obtain ⟨v', w', q1, q2, q3, _⟩ := run_append_own (P := Tryz.prog) w B 23 ty 9 it _ 1 16 Tryz.underlying23 hit hz hsz hby rfl (by decide) v n xs h ⟨g, 0, none⟩ m cap ys h2.1 (h2.cells (g := g) rfl) hys hm2 (by omega) hB
  exact ⟨v', w', q1, q2, q3⟩
theorem StrL.own {w : World} {B n : Nat} {xs : List (List UInt8)} {a : Option Addr} {c : Nat} (h : w.ownsRow B 9 1 (.slice a n c) n (xs.map strR)) : StrL w a xs := fun t s hs => by
 rcases h.2 with ⟨e, e0⟩ | ⟨g, cap, cur, e, _⟩
 ·cases e
  have h1 := h.1
  have := (List.getElem?_eq_some_iff.1 hs).1
  simp at h1
  subst h1
  simp at this
 ·cases e
  refine ⟨g, 0, rfl, ?_⟩
  have hl := (List.getElem?_eq_some_iff.1 hs).1
  have h1 := h.1
  simp at h1
  rw [Nat.zero_add, h.cellAt t (by omega), List.getElem?_map, hs]
  rfl
theorem run_exec_append {a : Act} {w w' : World} {oi : Oper} {v v2 v' : Value} (s x : Operand) (ho : oi.op = .call { callee := .builtin .append, args := #[s, x], argTypes := #[23, 23] }) (hs : a.eval s = v) (hx : a.eval x = v2) (hr : (Builtin.append_ #[23, 23] oi.type #[v, v2]).run Tryz.prog w = .ok v' w') : (execOp a.eval oi).run Tryz.prog w = .ok (.value v') w' := by
 unfold execOp
 simp only [ho, resolve, invoke, builtin, Sem.run_bind, Sem.run_pure, Result.andThen_ok, List.map_toArray, List.map_cons, List.map_nil, hs, hx, hr]
theorem growA (V : World) (ty : TypeId) (B : Nat) (da : Option Addr) (dn dc : Nat) (D : List (List UInt8)) (s : List UInt8) (h : V.ownsRow B 9 1 (.slice da dn dc) dn (D.map strR)) (hm : dn + 1 ≤ 1000000) :
  ∃ v4 w4 v6 w6, (Builtin.append_ #[23, 23] ty #[.slice none 0 0, .slice da dn dc]).run Tryz.prog V = .ok v4 w4 ∧ (Builtin.append_ #[23, 23] ty #[v4, .slice (some ⟨w4.heap.size, 0, none⟩) 1 1]).run Tryz.prog (w4.alloc (.cells #[.string ⟨s.toArray⟩] 9)) = .ok v6 w6 ∧ V.grownBy w4 none ∧ V.grownBy w6 none ∧ w6.ownsRow V.heap.size 9 1 v6 (dn + 1) ((D ++ [s]).map strR) := by
 obtain ⟨v4, w4, r4, o4, g4⟩ := run_appendR V ty V.heap.size B (.slice none 0 0) (.slice da dn dc) 0 dn [] (D.map strR) (World.ownsRow_nil _ _ _ _) h (strOne D) (Nat.le_refl _) (by omega)
 rw [Nat.zero_add, List.nil_append] at o4
 have g4n : V.grownBy w4 none := g4
 have ga := ga w4 (.cells #[.string ⟨s.toArray⟩] 9) none
 have on := owns_new (w := w4) (B := w4.heap.size) 9 1 1 [.string ⟨s.toArray⟩] (Nat.le_refl _) rfl (by unfold maxLen; omega)
 have hlt := o4.lt
 have o4' := o4.kept ga (Classical.em _)
 obtain ⟨v6, w6, r6, o6, g6⟩ := run_appendR (w4.alloc (.cells #[.string ⟨s.toArray⟩] 9)) ty V.heap.size w4.heap.size v4 (.slice (some ⟨w4.heap.size, 0, none⟩) 1 1) dn 1 (D.map strR) [.string ⟨s.toArray⟩] o4' on (by intro u hu; simp at hu; subst hu; rfl) (by have := g4n.size; simp; omega) hm
 exact ⟨v4, w4, v6, w6, r4, r6, g4n, (g4n.trans ga).andThen g6 (fun j e => .inl (hlt j e).1), by rw [List.map_append]; exact o6⟩
theorem growB (V : World) (ty : TypeId) (B : Nat) (da : Option Addr) (dn dc : Nat) (D : List (List UInt8)) (s : List UInt8) (h : V.ownsRow B 9 1 (.slice da dn dc) dn (D.map strR)) (hm : dn + 1 ≤ 1000000) :
  ∃ v4 w4 v6 w6, (Builtin.append_ #[23, 23] ty #[.slice none 0 0, .slice da dn dc]).run Tryz.prog (V.alloc (.cells #[.string ⟨s.toArray⟩] 9)) = .ok v4 w4 ∧ (Builtin.append_ #[23, 23] ty #[v4, .slice (some ⟨V.heap.size, 0, none⟩) 1 1]).run Tryz.prog w4 = .ok v6 w6 ∧ V.grownBy w4 none ∧ V.grownBy w6 none ∧ w6.ownsRow V.heap.size 9 1 v6 (dn + 1) ((D ++ [s]).map strR) := by
 have ga := ga V (.cells #[.string ⟨s.toArray⟩] 9) none
 have on := owns_new (w := V) (B := V.heap.size) 9 1 1 [.string ⟨s.toArray⟩] (Nat.le_refl _) rfl (by unfold maxLen; omega)
 have h' := h.kept ga (Classical.em _)
 obtain ⟨v4, w4, r4, o4, g4⟩ := run_appendR (V.alloc (.cells #[.string ⟨s.toArray⟩] 9)) ty (V.heap.size + 1) B (.slice none 0 0) (.slice da dn dc) 0 dn [] (D.map strR) (World.ownsRow_nil _ _ _ _) h' (strOne D) (by simp) (by omega)
 rw [Nat.zero_add, List.nil_append] at o4
 have g4n : (V.alloc (.cells #[.string ⟨s.toArray⟩] 9)).grownBy w4 none := g4
 have hlt := o4.lt
 obtain ⟨v6, w6, r6, o6, g6⟩ := run_appendR w4 ty (V.heap.size + 1) V.heap.size v4 (.slice (some ⟨V.heap.size, 0, none⟩) 1 1) dn 1 (D.map strR) [.string ⟨s.toArray⟩] o4 (on.kept g4n (Classical.em _)) (by intro u hu; simp at hu; subst hu; rfl) (by have := g4n.size; simp at this; omega) hm
 exact ⟨v4, w4, v6, w6, r4, r6, ga.trans g4n, (ga.trans g4n).andThen g6 (fun j e => .inl (by have := (hlt j e).1; omega)), by rw [List.map_append]; exact o6.mono (by omega)⟩
section
variable {w0 : World} {l : List Gram.Node} {a : Option Addr} {L c : Nat} {vars may : List (List UInt8)} {va ma : Option Addr} {vn vc mn mc k b : Nat}
theorem clistO_any (hv : RepC w0 0 [] (.l 44 6 (l.map nodeD)) (.slice a L c)) (hvn : vn = vars.length) (hvm : vn ≤ 1000000) (hmn : mn = may.length) (hmm : mn ≤ 1000000) (hk : k ≤ 1000000)
  (its : List Gram.Item) (ia : Option Addr) (jn ic : Nat) (hi : RepC w0 0 [] (.l 88 12 (itemsD its)) (.slice ia jn ic)) (hno : ∀ (t : Nat) ns e ss at_, its[t]? = some (Gram.Item.mk ns e ss at_) → ss = []) (hsz : (Ty.defs its).length < 1000000) (hok : (Ty.listN ((l.take k).map Gram.Node.name) vars may its []).1.2 = 0)
  (w : World) (hg : w0.grownBy w none) (hcb : Cb w b a L c (0, 0)) (hst : StrL w va vars) (hsm : StrL w ma may) :
  Calls Tryz.prog 22 #[.pointer (some ⟨b, 0, none⟩), .slice ia jn ic, .slice va vn vc, .slice ma mn mc, .int .i64 (k : Int)] w fun e w' => ∃ da dn dc, e = .returned (.slice da dn dc) ∧ dn = (Ty.defs its).length ∧ w'.ownsRow w.heap.size 9 1 (.slice da dn dc) dn ((Ty.defs its).map strR) ∧ w.grownBy w' none := by
 obtain ⟨hL, hLm⟩ := nLen hi
 rw [itemsD_map, List.length_map] at hL
 unfold maxLen at hLm
 have hnm := cnamesO_any (vars := vars) (va := va) (vn := vn) (vc := vc) (k := k) (b := b) hv hvn hvm hk
 obtain ⟨-, ho2⟩ := Ty.listN_ok _ vars may its [] hok
 have HO := ld ho2
 have HNM := ld hnm
 have HL := ld hL
 have HI := ld (And.intro hi (And.intro hno hsz))
 have HW := ld (And.intro hg (And.intro hcb (And.intro hst (And.intro hsm hmn))))
 clear hL hi hno hsz hg hcb hst hsm hmn hnm hvn hv hok ho2
 go_enter Tryz.func22, Tryz.ntmps22
 go_wp2
 go_loopw [11, 12] (fun lv iv wr => ∃ (t : Nat) (da : Option Addr) (dn dc : Nat), t ≤ jn ∧ iv = .int .i64 (t : Int) ∧ lv = .slice da dn dc ∧ Hid (dn = (Ty.defs (its.take t)).length ∧ wr.ownsRow w.heap.size 9 1 (.slice da dn dc) dn ((Ty.defs (its.take t)).map strR) ∧ w.grownBy wr none)) (fun _ i _ => jn - (intOf i).toNat)
 case atStart => exact ⟨0, none, 0, 0, Nat.zero_le _, rfl, rfl, ld ⟨by simp [Ty.defs], by simpa [Ty.defs] using World.ownsRow_nil _ _ _ _, World.grownBy.refl _ _⟩⟩
 case round =>
  obtain ⟨t, da, dn, dc, ht, rfl, rfl, HQ⟩ := hrel
  obtain ⟨hdn, q2, q3⟩ := HQ.out
  have z1 : wr.cell? ⟨b, 1, none⟩ = some (.int .i64 0) := cell_of_row wr _ 1 _ _ _ (HW.out.2.1.kept q3)
  by_cases hlt : t < jn
  ·obtain ⟨x, hit⟩ : ∃ x, its[t]? = some x := ⟨_, List.getElem?_eq_getElem (by rw [← HL.out]; exact hlt)⟩
   obtain ⟨ns, e, ss, at_⟩ := x
   have hss := HI.out.2.1 t _ _ _ _ hit
   subst hss
   have hone := Ty.defs_one its t ns e [] at_ hit
   have hle := Ty.defs_le its (t + 1)
   rw [hone, List.length_append] at hle
   obtain ⟨o1, o2⟩ := HO.out t ns e [] at_ hit
   rw [List.nil_append] at o2
   obtain ⟨g, na, nn, nc, ka, kn, kc, qa, qn, qc, rfl, hns, hke, hqs, hcs⟩ := itemAt HI.out.1 hit
   have hq0 : qn = 0 := by have := (nLen hqs).1; simp [statesD] at this; exact this
   subst hq0
   obtain ⟨hnn, hnnm⟩ := nLen hns
   rw [List.length_map] at hnn
   unfold maxLen at hnnm
   have hgr := HW.out.1.trans q3
   have hsz := HI.out.2.2
   cases e with
   | mk f1 sx1 nm1 tk1 tl1 n1 m1 ks1 a1 =>
   simp only [expCells, List.cons_append, List.nil_append] at hcs
   simp only [Gram.Exp.kids] at hke
   have v0 := hgr.cell (hcs 0 _ rfl) (by simp)
   have v1 := hgr.cell (hcs 1 _ rfl) (by simp)
   have v2 := hgr.cell (hcs 2 _ rfl) (by simp)
   have v3 := hgr.cell (hcs 3 _ rfl) (by simp)
   have v4 := hgr.cell (hcs 4 _ rfl) (by simp)
   have v5 := hgr.cell (hcs 5 _ rfl) (by simp)
   have v6 := hgr.cell (hcs 6 _ rfl) (by simp)
   have v7 := hgr.cell (hcs 7 _ rfl) (by simp)
   have v8 := hgr.cell (hcs 8 _ rfl) (by simp)
   have v9 := hgr.cell (hcs 9 _ rfl) (by simp)
   have v10 := hgr.cell (hcs 10 _ rfl) (by simp)
   have v11 := hgr.cell (hcs 11 _ rfl) (by simp)
   rw [Nat.add_zero] at v0
   obtain ⟨W3, hW3⟩ : ∃ W3, W3 = wr.alloc (.cells #[.slice na nn nc, .int .i64 f1, .int .i64 sx1, .string ⟨nm1.toArray⟩, .int .i64 tk1, .int .i64 tl1, .int .i64 n1, .int .i64 m1, .slice ka kn kc, .int .i64 a1, .slice qa 0 qc, .int .i64 at_] 88 (0, 0)) := ⟨_, rfl⟩
   have hg3 : wr.grownBy W3 none := by rw [hW3]; exact ga wr _ none
   have hbx : W3.heap[wr.heap.size]? = some (.cells #[.slice na nn nc, .int .i64 f1, .int .i64 sx1, .string ⟨nm1.toArray⟩, .int .i64 tk1, .int .i64 tl1, .int .i64 n1, .int .i64 m1, .slice ka kn kc, .int .i64 a1, .slice qa 0 qc, .int .i64 at_] 88 (0, 0)) := by rw [hW3]; exact heap_alloc_new wr _
   have HW3 := ld hW3
   obtain ⟨D, hD⟩ : ∃ D, D = Ty.defs (its.take t) := ⟨_, rfl⟩
   rw [← hD] at hone hle o2 hdn q2
   have HS := ld (And.intro hdn (And.intro (q2.kept hg3 (Classical.em _)) (And.intro hbx (q3.trans hg3))))
   have HN := ld (And.intro hnn (And.intro hns (And.intro o1 (And.intro o2 (And.intro hone (And.intro hke (show D.length + nn < 1000000 by omega)))))))
   obtain ⟨wo, rfl⟩ : ∃ wo, wo = wr := ⟨_, rfl⟩
   clear HQ hit q2 q3 hcs hke hns hqs hnn hdn hle hone o1 o2 hW3 hg3 hbx hgr hD hsz
   go_wp2
   rw [← HW3.out]
   go_loopw [11, 16] (fun lv jv wq => ∃ (u : Nat) (da : Option Addr) (dn dc : Nat), u ≤ nn ∧ jv = .int .i64 (u : Int) ∧ lv = .slice da dn dc ∧ Hid (dn = (D ++ ns.take u).length ∧ wq.ownsRow w.heap.size 9 1 (.slice da dn dc) dn ((D ++ ns.take u).map strR) ∧ W3.grownBy wq none)) (fun _ j _ => nn - (intOf j).toNat)
   case atStart => exact ⟨0, da, dn, dc, Nat.zero_le _, rfl, rfl, ld ⟨by simpa using HS.out.1, by simpa using HS.out.2.1, World.grownBy.refl _ _⟩⟩
   case round =>
    obtain ⟨u, da, dn, dc, hu, rfl, rfl, HP⟩ := hrel
    obtain ⟨hdn, s2, s3⟩ := HP.out
    have hbr := (s3.block _ (gl HS.out.2.2.1) (by simp)).trans HS.out.2.2.1
    have hG := HS.out.2.2.2.trans s3
    have y1 : wr.cell? ⟨b, 1, none⟩ = some (.int .i64 0) := cell_of_row wr _ 1 _ _ _ (HW.out.2.1.kept hG)
    have y0 := cell_of_row wr _ 0 _ _ _ hbr
    clear v0 v1 v2 v3 v4 v5 v6 v7 v8 v9 v10 v11
    by_cases hlu : u < nn
    ·obtain ⟨s, hs⟩ : ∃ s, ns[u]? = some s := ⟨_, List.getElem?_eq_getElem (by rw [← HN.out.1]; exact hlu)⟩
     obtain ⟨gn, rfl, x0⟩ := nameAt HN.out.2.1 hs
     have y5 := (HW.out.1.trans hG).cell x0 (by simp)
     obtain ⟨p1, p2⟩ := HN.out.2.2.2.1 u s hs
     have hlen : dn + 1 ≤ 1000000 := by have := HN.out.2.2.2.2.2.2; rw [hdn, List.length_append, List.length_take]; omega
     have hm := has_any wr ma mn mc may s HW.out.2.2.2.2 hmm (HW.out.2.2.2.1.kept hG)
     have hd := has_any wr da dn dc (D ++ ns.take u) s hdn (by omega) (StrL.own s2)
     rw [p1] at hm
     rw [p2] at hd
     have HNX := ld (show D ++ ns.take (u + 1) = D ++ ns.take u ++ [s] by rw [List.take_add_one, hs]; simp)
     have HDN := ld hdn
     have HWQ := ld s3
     have HSZ2 : Hid (w.heap.size ≤ wr.drew.heap.size) := ld hG.size
     have hown : wr.drew.ownsRow w.heap.size 9 1 (.slice da dn dc) dn ((D ++ ns.take u).map strR) := s2
     clear HP hs x0 p1 p2 hdn s2 s3 hbr hG
     obtain ⟨V, rfl⟩ : ∃ V, V = wr := ⟨_, rfl⟩
     obtain ⟨wr, rfl⟩ : ∃ wr, wr = wo := ⟨_, rfl⟩
     go_wp2_with (first | (go_at_call 21; with_reducible refine hm.mono ?_; rintro e1 w2 ⟨rfl, hw2⟩; obtain rfl := hw2.symm) | (go_at_call 21; refine hd.mono ?_; rintro e1 w2 ⟨rfl, hw2⟩; obtain rfl := hw2.symm))
     refine wp_region_L (S := fun V' => V.grownBy V' none) (Z := []) (by kernel_rfl) ?_
     have hS := gdrew (World.grownBy.refl V none)
     have hkS : ∀ V' : World, V.drew.grownBy V' none → V.grownBy V' none := fun V' hg => hS.trans hg
     refine Wl.t1 0 108 (.slice da dn dc) hS ?_
     (try simp only [Act.put, Wl.sA, Wl.sB, Wl.sC])
     refine Wl.t1 2 110 (.pointer (some ⟨wr.heap.size, 0, none⟩)) hS ?_
     (try simp only [Act.put, Wl.sA, Wl.sB, Wl.sC])
     refine Wl.t2 3 111 (.slice (some ⟨gn, 0, none⟩) nn nc) (fun w' hw' => ?_) hS ?_
     ·have z0 := hw'.cell y0 (by simp); clear hw'; go_simp
     (try simp only [Act.put, Wl.sA, Wl.sB, Wl.sC])
     refine Wl.t1 4 112 (.int .i64 (u : Int)) hS ?_
     (try simp only [Act.put, Wl.sA, Wl.sB, Wl.sC])
     refine Wl.t2 5 113 (.pointer (some ⟨gn, u, none⟩)) (fun w' hw' => ?_) hS ?_
     ·clear hw'; go_simp
     (try simp only [Act.put, Wl.sA, Wl.sB, Wl.sC])
     refine Wl.t2 6 114 (.string ⟨s.toArray⟩) (fun w' hw' => ?_) hS ?_
     ·have z0 := hw'.cell y5 (by simp); clear hw'; go_simp
     (try simp only [Act.put, Wl.sA, Wl.sB, Wl.sC])
     refine Wl.wpL_both (i := 1) (j := 7) (by kernel_rfl) ?_ ?_
     ·obtain ⟨v4, w4, v6, w6, r4, r6, g4, g6, o6⟩ := growA V.drew 23 w.heap.size da dn dc (D ++ ns.take u) s hown hlen
      obtain ⟨fa, fc, rfl⟩ := rowFormR o6
      refine Wl.wpOp_val (d := 109) (v := v4) (w' := w4) rfl (by kernel_rfl) (by kernel_rfl) (run_exec_append _ _ rfl rfl rfl r4) ⟨fun _ => hkS _ g4, ?_⟩
      (try simp only [Act.put, Wl.sA, Wl.sB, Wl.sC])
      refine Wl.wpL_val (i := 7) (d := 115) (v := .slice (some ⟨w4.heap.size, 0, none⟩) 1 1) (w' := w4.alloc (.cells #[.string ⟨s.toArray⟩] 9)) (by kernel_rfl) rfl (by kernel_rfl) (by kernel_rfl) (by kernel_rfl) (hkS _ (galloc g4 _)) ?_
      (try simp only [Act.put, Wl.sA, Wl.sB, Wl.sC])
      refine Wl.wpL_val (i := 8) (d := 116) (v := .slice fa (dn + 1) fc) (w' := w6) (by kernel_rfl) rfl (by kernel_rfl) (by kernel_rfl) (run_exec_append _ _ rfl rfl rfl r6) (hkS _ g6) ?_
      (try simp only [Act.put, Wl.sA, Wl.sB, Wl.sC])
      refine Wl.t1 9 11 (.slice fa (dn + 1) fc) (hkS _ g6) ?_
      (try simp only [Act.put, Wl.sA, Wl.sB, Wl.sC])
      refine wpL_done (by kernel_rfl) ?_ _
      have HF := ld (And.intro o6 g6)
      clear o6 g6 r4 r6 g4 hS hown y0 y1 y5 hm hd hkS
      go_wp2
      exact ⟨⟨u + 1, fa, dn + 1, fc, by omega, by go_num, rfl, ld ⟨by rw [HNX.out, List.length_append, ← HDN.out]; rfl, by rw [HNX.out]; exact HF.out.1.mono HSZ2.out, HWQ.out.trans ((gdrew (World.grownBy.refl V none)).trans HF.out.2)⟩⟩, by simp [intOf]; omega⟩
     ·obtain ⟨v4, w4, v6, w6, r4, r6, g4, g6, o6⟩ := growB V.drew 23 w.heap.size da dn dc (D ++ ns.take u) s hown hlen
      obtain ⟨fa, fc, rfl⟩ := rowFormR o6
      refine Wl.wpOp_val (d := 115) (v := .slice (some ⟨V.drew.heap.size, 0, none⟩) 1 1) (w' := V.drew.alloc (.cells #[.string ⟨s.toArray⟩] 9)) rfl (by kernel_rfl) (by kernel_rfl) (by kernel_rfl) ⟨fun _ => hkS _ (ga V.drew _ none), ?_⟩
      (try simp only [Act.put, Wl.sA, Wl.sB, Wl.sC])
      refine Wl.wpL_val (i := 1) (d := 109) (v := v4) (w' := w4) (by kernel_rfl) rfl (by kernel_rfl) (by kernel_rfl) (run_exec_append _ _ rfl rfl rfl r4) (hkS _ g4) ?_
      (try simp only [Act.put, Wl.sA, Wl.sB, Wl.sC])
      refine Wl.wpL_val (i := 8) (d := 116) (v := .slice fa (dn + 1) fc) (w' := w6) (by kernel_rfl) rfl (by kernel_rfl) (by kernel_rfl) (run_exec_append _ _ rfl rfl rfl r6) (hkS _ g6) ?_
      (try simp only [Act.put, Wl.sA, Wl.sB, Wl.sC])
      refine Wl.t1 9 11 (.slice fa (dn + 1) fc) (hkS _ g6) ?_
      (try simp only [Act.put, Wl.sA, Wl.sB, Wl.sC])
      refine wpL_done (by kernel_rfl) ?_ _
      have HF := ld (And.intro o6 g6)
      clear o6 g6 r4 r6 g4 hS hown y0 y1 y5 hm hd hkS
      go_wp2
      exact ⟨⟨u + 1, fa, dn + 1, fc, by omega, by go_num, rfl, ld ⟨by rw [HNX.out, List.length_append, ← HDN.out]; rfl, by rw [HNX.out]; exact HF.out.1.mono HSZ2.out, HWQ.out.trans ((gdrew (World.grownBy.refl V none)).trans HF.out.2)⟩⟩, by simp [intOf]; omega⟩
    ·have e : u = nn := by omega
     subst e
     have hdn2 := hdn
     have s22 := s2
     rw [show ns.take u = ns from List.take_of_length_le (by rw [← HN.out.1]; exact Nat.le_refl _), ← HN.out.2.2.2.2.1] at hdn2 s22
     have hx := HNM.out _ (.mk f1 sx1 nm1 tk1 tl1 n1 m1 ks1 a1) (Nat.le_refl _) HN.out.2.2.1 wr ka kn kc (HW.out.1.trans hG) HN.out.2.2.2.2.2.1 (HW.out.2.2.1.kept hG) (HW.out.2.1.kept hG)
     simp only [expCells] at hx
     have i1 := cell_of_row wr _ 1 _ _ _ hbr
     have i2 := cell_of_row wr _ 2 _ _ _ hbr
     have i3 := cell_of_row wr _ 3 _ _ _ hbr
     have i4 := cell_of_row wr _ 4 _ _ _ hbr
     have i5 := cell_of_row wr _ 5 _ _ _ hbr
     have i6 := cell_of_row wr _ 6 _ _ _ hbr
     have i7 := cell_of_row wr _ 7 _ _ _ hbr
     have i8 := cell_of_row wr _ 8 _ _ _ hbr
     have i9 := cell_of_row wr _ 9 _ _ _ hbr
     have HF := ld (And.intro hdn2 (And.intro s22 hG))
     clear HP hdn hdn2 s2 s22 s3 hbr hG
     go_wp2_with (go_at_call 39; refine hx.mono ?_; rintro e w9 ⟨rfl, hg9⟩; refine Hid.out ?_)
     have HF2 := ld (And.intro HF.out.1 (And.intro (HF.out.2.1.kept hg9 (Classical.em _)) (HF.out.2.2.trans hg9)))
     clear hx hg9 i1 i2 i3 i4 i5 i6 i7 i8 i9 y0 y1
     refine ld ?_
     go_wp2
     exact ⟨⟨t + 1, da, dn, dc, by omega, by go_num, rfl, ld ⟨HF2.out.1, HF2.out.2.1, HF2.out.2.2⟩⟩, by simp [intOf]; omega⟩
  ·have e : t = jn := by omega
   subst e
   have hdn2 := hdn
   have q22 := q2
   rw [List.take_of_length_le (by rw [← HL.out]; exact Nat.le_refl _)] at hdn2 q22
   have HF := ld (And.intro hdn2 (And.intro q22 q3))
   clear HQ hdn hdn2 q2 q22 q3
   go_wp2
   go_ret
   exact ⟨da, dn, dc, rfl, HF.out.1, HF.out.2.1, HF.out.2.2⟩
end
theorem cstates_any (w0 w : World) (its : List Gram.Item) (ia : Option Addr) (jn ic : Nat) (hi : RepC w0 0 [] (.l 88 12 (itemsD its)) (.slice ia jn ic)) (hno : ∀ (t : Nat) ns e ss at_, its[t]? = some (Gram.Item.mk ns e ss at_) → ss = []) (hg : w0.grownBy w none) (b : Nat) (vv : Value) :
  Calls Tryz.prog 24 #[.pointer (some ⟨b, 0, none⟩), .slice ia jn ic, vv] w fun e w' => e = .returned (.tuple #[]) ∧ w' = w := by
 obtain ⟨hL, hLm⟩ := nLen hi
 rw [itemsD_map, List.length_map] at hL
 unfold maxLen at hLm
 have HL := ld hL
 have HI := ld hi
 have HNO := ld hno
 have HG := ld hg
 clear hL hi hno hg
 go_enter Tryz.func24, Tryz.ntmps24
 go_wp2
 go_loopw [6] (fun iv wr => ∃ t : Nat, t ≤ jn ∧ iv = .int .i64 (t : Int) ∧ Hid (wr = w)) (fun i _ => jn - (intOf i).toNat)
 case atStart => exact ⟨0, Nat.zero_le _, rfl, ld rfl⟩
 case round =>
  obtain ⟨t, ht, rfl, HQ⟩ := hrel
  have hw := HQ.out
  subst hw
  clear HQ
  by_cases hlt : t < jn
  ·obtain ⟨x, hit⟩ : ∃ x, its[t]? = some x := ⟨_, List.getElem?_eq_getElem (by rw [← HL.out]; exact hlt)⟩
   obtain ⟨ns, e, ss, at_⟩ := x
   have hss := HNO.out t _ _ _ _ hit
   subst hss
   obtain ⟨g, na, nn, nc, ka, kn, kc, qa, qn, qc, rfl, hns, hke, hqs, hcs⟩ := itemAt HI.out hit
   obtain ⟨hq0, _⟩ := nLen hqs
   have hq0' : qn = 0 := by rw [hq0]; rfl
   subst hq0'
   cases e with
   | mk f1 s1 nm1 tk1 tl1 n1 m1 ks1 a1 =>
   simp only [expCells, List.cons_append, List.nil_append] at hcs
   have v10 := HG.out.cell (hcs 10 _ rfl) (by simp)
   clear hcs hke hns hqs hq0 hit
   go_wp2
   go_loopw [7] (fun jv wq => jv = .int .i64 0 ∧ Hid (wq = wr)) (fun _ _ => 0)
   case atStart => exact ⟨rfl, ld rfl⟩
   case round =>
    obtain ⟨rfl, HP⟩ := hrel
    have hw := HP.out
    subst hw
    clear HP
    go_wp2
    exact ⟨⟨t + 1, by omega, by go_num, ld (by trivial)⟩, by simp [intOf]; omega⟩
  ·have e : t = jn := by omega
   subst e
   go_wp2
   go_end0
   exact ⟨rfl, by trivial⟩
theorem varOne {w : World} {B : Nat} {E : List Nat} {x : Gram.Var} {us : List Value} (h : RepRow w B E (varD x) us) : ∀ u ∈ us, u.oneCell' = true := by
 obtain ⟨nm, tk, tl, cl, at_⟩ := x
 obtain ⟨r1, rfl, h_1⟩ := RepRow.cInv h
 obtain ⟨r2, rfl, h_2⟩ := h_1.cInv
 obtain ⟨r3, rfl, h_3⟩ := h_2.cInv
 obtain ⟨p, q, r, r4, rfl, hc, h_4⟩ := h_3.lInv
 obtain ⟨r5, rfl, h_5⟩ := h_4.cInv
 obtain rfl := h_5.nInv
 intro u hu
 simp at hu
 rcases hu with rfl | rfl | rfl | rfl | rfl <;> rfl
theorem varsOne {w : World} {B : Nat} {E : List Nat} : ∀ {vs : List Gram.Var} {us : List Value}, RepRow w B E (vs.map varD).flatten us → ∀ u ∈ us, u.oneCell' = true
 | [], us, h => by
  have := RepRow.nInv h
  subst this
  simp
 | x :: r, us, h => by
  rw [List.map_cons, List.flatten_cons] at h
  obtain ⟨a, b, rfl, h1, h2⟩ := RepRow.appInv h
  intro u hu
  rcases List.mem_append.1 hu with h3 | h3
  ·exact varOne h1 u h3
  ·exact varsOne h2 u h3
theorem run_appendV (w : World) (ty : TypeId) (B B2 : Nat) (v v2 : Value) (n m : Nat) (xs ys : List Value) (h : w.ownsRow B 60 5 v n xs) (h2 : w.ownsRow B2 60 5 v2 m ys) (hys : ∀ u ∈ ys, u.oneCell' = true) (hB : B ≤ w.heap.size) (hm : n + m ≤ 1000000) :
  ∃ v' w', (Builtin.append_ #[41, 41] ty #[v, v2]).run Tryz.prog w = .ok v' w' ∧ w'.ownsRow B 60 5 v' (n + m) (xs ++ ys) ∧ w.grownBy w' v.ownBlock := by
 obtain ⟨it, hit, hz, hsz, hby⟩ := infoP info_Var
 have hm2 : n + m ≤ maxLen := by unfold maxLen; omega
 rcases h2.2 with ⟨rfl, h0⟩ | ⟨g, cap, cur, rfl, hb2, hh2, hc2⟩
 ·subst h0
  have hy : ys = [] := List.eq_nil_of_length_eq_zero (by simpa using h2.1)
  subst hy
  simp only [Nat.add_zero, List.append_nil]
  rcases h.2 with ⟨rfl, h0⟩ | ⟨g, cap, cur, rfl, hb1, hh1, hnc, hc1⟩
  ·refine ⟨_, w, ?_, h, World.grownBy.refl _ _⟩
   simp [Builtin.append_, run_underlying Tryz.underlying41, sizeOf, typeInfo, hit, Builtin.lenOf, Builtin.firstCells, loadCells, loadCellsFrom]
  ·refine ⟨_, w, ?_, h, World.grownBy.refl _ _⟩
   simp [Builtin.append_, run_underlying Tryz.underlying41, sizeOf, typeInfo, hit, Builtin.lenOf, Builtin.firstCells, loadCells, loadCellsFrom, hnc, storeCells]
 ·obtain ⟨v', w', q1, q2, q3, _⟩ := run_append_own (P := Tryz.prog) w B 41 ty 60 it _ 5 64 Tryz.underlying41 hit hz hsz hby rfl (by decide) v n xs h ⟨g, 0, none⟩ m cap ys h2.1 (h2.cells (g := g) rfl) hys hm2 (by omega) hB
  exact ⟨v', w', q1, q2, q3⟩
theorem vapp {W V : World} (ty : TypeId) (gV : W.grownBy V none) {v : Value} {ps vs : List Gram.Var} {xs : List Value} (h : V.ownsRow W.heap.size 60 5 v ps.length xs) (hr : RepRow W 0 [] (ps.map varD).flatten xs) {v2 : Value} (h2 : RepC W 0 [] (.l 60 5 (vs.map varD)) v2) (hm : ps.length + vs.length ≤ 1000000) :
  ∃ v' V' zs, (Builtin.append_ #[41, 41] ty #[v, v2]).run Tryz.prog V = .ok v' V' ∧ V'.ownsRow W.heap.size 60 5 v' (ps ++ vs).length zs ∧ RepRow W 0 [] ((ps ++ vs).map varD).flatten zs ∧ W.grownBy V' none := by
 cases h2 with
 | @l _ _ _ _ ys ho _ hy =>
  rw [List.length_map] at ho
  obtain ⟨v', V', q1, q2, q3⟩ := run_appendV V ty W.heap.size 0 v v2 ps.length vs.length xs ys h (ho.kept gV (Classical.em _)) (varsOne hy) gV.size hm
  refine ⟨v', V', xs ++ ys, q1, by rw [List.length_append]; exact q2, ?_, gV.andThen q3 (fun j e => .inl (h.lt j e).1)⟩
  rw [List.map_append, List.flatten_append]
  exact RepRow.append hr hy
theorem vend {W V : World} (gV : W.grownBy V none) {v : Value} {ps : List Gram.Var} {xs : List Value} (h : V.ownsRow W.heap.size 60 5 v ps.length xs) (hr : RepRow W 0 [] (ps.map varD).flatten xs) : RepC V 0 [] (.l 60 5 (ps.map varD)) v :=
 .l (by rw [List.length_map]; exact h.mono (Nat.zero_le _)) (by simp) (RepRow.keptX gV (fun k e => by cases e) hr)
theorem tgrow_nil (w : World) (n : Nat) (hn : n ≤ 1000000) :
  Calls Tryz.prog 58 #[.slice none 0 0, .int .i64 (n : Int)] w fun e w' => ∃ a c, e = .returned (.slice a 0 c) ∧ w'.ownsRow w.heap.size 60 5 (.slice a 0 c) 0 [] ∧ w.grownBy w' none := by
 by_cases h0 : n = 0
 ·subst h0
  go_enter Tryz.func58, Tryz.ntmps58
  go_wp2
  go_ret
  exact ⟨none, 0, rfl, World.ownsRow_nil _ _ _ _, World.grownBy.refl _ _⟩
 ·obtain ⟨it, hit, hz, hsz, hby⟩ := infoP info_Var
  have hrun : ∀ ty, _ := fun ty => Lib.run_append_nil_zeros (P := Tryz.prog) w 41 3 ty 60 it _ .i64 .i64 Tryz.underlying41 Tryz.underlying3 hit hz n (by omega) (by omega) (by omega) (by rw [hby]; omega)
  have hge := grownCap_ge w n 0 60
  have hle := grownCap_le_maxLen w n 0 60 (by unfold maxLen; omega)
  obtain ⟨G, hG⟩ : ∃ G, G = grownCap w n 0 60 := ⟨_, rfl⟩
  rw [← hG] at hrun hge hle
  unfold maxLen at hle
  have hp : (0 : Int) < (n : Int) := by omega
  have HO : Hid ((w.drew.alloc (.cells (Builtin.zeroCells (Value.agg #[.string ⟨#[]⟩, .int .i64 0, .int .i64 0, .slice none 0 0, .int .i64 0]).cells n ++ Builtin.zeroCells (Value.agg #[.string ⟨#[]⟩, .int .i64 0, .int .i64 0, .slice none 0 0, .int .i64 0]).cells (G - n)) 60 (0, 0))).ownsRow w.heap.size 60 5 (.slice (some ⟨w.heap.size, 0, none⟩) 0 G) 0 []) := ld ⟨rfl, .inr ⟨w.heap.size, G, _, rfl, Nat.le_refl _, heap_alloc_new w.drew _, Nat.zero_le _, by unfold maxLen; omega, by
   simp only [Array.size_append, size_zeroCells]
   have : (Value.agg #[.string ⟨#[]⟩, .int .i64 0, .int .i64 0, .slice none 0 0, .int .i64 0]).cells.size = 5 := rfl
   rw [this]
   omega, by simp⟩⟩
  clear hG hit hz hsz hby
  go_enter Tryz.func58, Tryz.ntmps58
  go_wp2_with (at_builtin; refine Lib.wpList_append_run _ rfl _ _ _ _ rfl _ _ rfl rfl _ _ (hrun _) ?_)
  go_ret
  exact ⟨some ⟨w.heap.size, 0, none⟩, G, rfl, HO.out, (gdrew (World.grownBy.refl w none)).trans (ga _ _ _)⟩
theorem tconcat_any (w0 w : World) (hw : w0.grownBy w none) (lb : Nat) (rows : List (Option Addr × Nat × Nat)) (LL : List (List Gram.Var)) (hb : VL w0 w lb rows LL) (hn : rows.length ≤ 1000000) (hz : LL.flatten.length ≤ 1000000) :
  Calls Tryz.prog 31 #[.slice (some ⟨lb, 0, none⟩) rows.length rows.length] w fun e w' => ∃ a n c, e = .returned (.slice a n c) ∧ RepC w' 0 [] (.l 60 5 (LL.flatten.map varD)) (.slice a n c) ∧ n ≤ 1000000 ∧ w.grownBy w' none := by
 obtain ⟨n, hnE⟩ : ∃ n, n = rows.length := ⟨_, rfl⟩
 rw [← hnE] at hn ⊢
 have HB := ld hb
 have HW := ld hw
 have HNE := ld hnE
 have HZ := ld hz
 clear hb hw hnE hz
 go_enter Tryz.func31, Tryz.ntmps31
 go_wp2
 go_loopw [3, 11] (fun sv iv wr => ∃ t s : Nat, t ≤ n ∧ s ≤ 1000000 ∧ sv = .int .i64 (s : Int) ∧ iv = .int .i64 (t : Int) ∧ Hid (w = wr ∧ s = (LL.take t).flatten.length)) (fun _ i _ => n - (intOf i).toNat)
 case atStart => exact ⟨0, 0, Nat.zero_le _, Nat.zero_le _, rfl, rfl, ld ⟨rfl, by simp⟩⟩
 case round =>
  obtain ⟨t, s, htn, hs, rfl, rfl, HQ⟩ := hrel
  obtain ⟨rfl, q2⟩ := HQ.out
  by_cases hlt : t < n
  ·obtain ⟨r, hr⟩ : ∃ r, rows[t]? = some r := ⟨_, List.getElem?_eq_getElem (by rw [← HNE.out]; exact hlt)⟩
   obtain ⟨l, hl⟩ : ∃ l, LL[t]? = some l := ⟨_, List.getElem?_eq_getElem (by rw [HB.out.len, ← HNE.out]; exact hlt)⟩
   have hvl := HB.out.row t r l hr hl
   have hce := HB.out.cell hr
   have hfo := flat_one LL t l hl
   have hle := flat_le LL (t + 1)
   rw [hfo] at hle
   obtain ⟨ra, rn, rc⟩ := r
   simp only at hvl hce
   obtain ⟨hvn, hvm⟩ := varsLen hvl
   have hsm : s + rn ≤ 1000000 := by have := HZ.out; rw [List.length_append] at hle; omega
   have hng : decide (((s + rn : Nat) : Int) < 0) = false := by simp; omega
   have HE := ld (show s + rn = (LL.take (t + 1)).flatten.length by rw [hfo, List.length_append]; omega)
   have H2 := ld q2
   clear HQ q2 hr hl hvl hfo hle hvn hvm
   go_wp2
   exact ⟨⟨t + 1, s + rn, by omega, hsm, by go_num, by go_num, ld ⟨by first | rfl | trivial, HE.out⟩⟩, by simp [intOf]; omega⟩
  ·have e : t = n := by omega
   subst e
   have hq2 := q2
   rw [List.take_of_length_le (by rw [HB.out.len, ← HNE.out]; exact Nat.le_refl _)] at hq2
   have HQ2 := ld hq2
   clear HQ q2 hq2 hlt
   go_wp2_with (go_at_call 58; refine (tgrow_nil _ s hs).mono ?_; rintro e w1 ⟨ga, gc, rfl, ho1, hg1⟩; refine Hid.out ?_)
   have HO1 := ld (And.intro ho1 hg1)
   clear ho1 hg1
   refine ld ?_
   go_wp2
   go_loopw [6, 27] (fun lv iv wr => ∃ (u : Nat) (la : Option Addr) (ln lc : Nat), u ≤ t ∧ lv = .slice la ln lc ∧ iv = .int .i64 (u : Int) ∧ Hid (w.grownBy wr none ∧ ∃ xs, wr.ownsRow w.heap.size 60 5 (.slice la ln lc) (LL.take u).flatten.length xs ∧ RepRow w 0 [] ((LL.take u).flatten.map varD).flatten xs)) (fun _ i _ => t - (intOf i).toNat)
   case atStart => exact ⟨0, ga, 0, gc, Nat.zero_le _, rfl, rfl, ld ⟨HO1.out.2, [], by simpa using HO1.out.1, by simpa using RepRow.nil⟩⟩
   case round =>
    obtain ⟨u, la, ln, lc, hut, rfl, rfl, HP⟩ := hrel
    obtain ⟨s1, xs, s2, s3⟩ := HP.out
    by_cases hlu : u < t
    ·obtain ⟨r, hr⟩ : ∃ r, rows[u]? = some r := ⟨_, List.getElem?_eq_getElem (by rw [← HNE.out]; exact hlu)⟩
     obtain ⟨l, hl⟩ : ∃ l, LL[u]? = some l := ⟨_, List.getElem?_eq_getElem (by rw [HB.out.len, ← HNE.out]; exact hlu)⟩
     have hvl := RepC.keptX HW.out (fun k e => by cases e) (HB.out.row u r l hr hl)
     have hce := (HB.out.kept s1 (by simp)).cell hr
     have hfo := flat_one LL u l hl
     have hle := flat_le LL (u + 1)
     rw [hfo, List.length_append] at hle
     obtain ⟨ra, rn, rc⟩ := r
     simp only at hvl hce
     have hap := fun ty => vapp ty s1 s2 s3 hvl (by have := HZ.out; omega)
     obtain ⟨v', V', zs, hrun, ho, hrr, hgg⟩ := hap 0
     have hrun2 : ∀ ty, (Builtin.append_ #[41, 41] ty #[.slice la ln lc, .slice ra rn rc]).run Tryz.prog wr = .ok v' V' := fun _ => hrun
     rw [← hfo] at ho hrr
     obtain ⟨va, vn, vc, rfl⟩ : ∃ a n c, v' = .slice a n c := by
      rcases ho.2 with ⟨h1, _⟩ | ⟨g, cap, cur, h1, _⟩
      ·exact ⟨_, _, _, h1⟩
      ·exact ⟨_, _, _, h1⟩
     have HG : Hid (w.grownBy V' none ∧ ∃ xs, V'.ownsRow w.heap.size 60 5 (.slice va vn vc) (LL.take (u + 1)).flatten.length xs ∧ RepRow w 0 [] ((LL.take (u + 1)).flatten.map varD).flatten xs) := ld ⟨hgg, zs, ho, hrr⟩
     clear HP s1 s2 s3 hr hl hvl hfo hle hap hrun ho hrr hgg
     go_wp2_with (at_builtin; refine Lib.wpList_append_run _ rfl _ _ _ _ rfl _ _ rfl rfl _ _ (hrun2 _) ?_)
     exact ⟨⟨u + 1, va, vn, vc, by omega, rfl, by go_num, ld HG.out⟩, by simp [intOf]; omega⟩
    ·have e : u = t := by omega
     subst e
     rw [show LL.take u = LL from List.take_of_length_le (by rw [HB.out.len, ← HNE.out]; exact Nat.le_refl _)] at s2 s3
     have hend := vend s1 s2 s3
     have hln : ln ≤ 1000000 := by
      have := (varsLen hend).1
      have := HZ.out
      omega
     have HG := ld (And.intro s1 (And.intro hend hln))
     clear HP s1 s2 s3 hend hln
     go_wp2
     go_ret
     exact ⟨la, ln, lc, rfl, HG.out.2.1, HG.out.2.2, HG.out.1⟩
namespace Ty
def firstF : List Nam.F → Nam.F
 | [] => (0, 0)
 | x :: r => if x.2 ≠ 0 then x else firstF r
theorem firstF_next : ∀ (l : List Nam.F) (t : Nat) (x : Nam.F), l[t]? = some x → firstF (l.take t) = (0, 0) → firstF (l.take (t + 1)) = if x.2 ≠ 0 then x else (0, 0)
 | [], t, v => by simp
 | y :: r, 0, v => by
  intro h _
  simp at h
  subst h
  simp only [List.take_succ_cons, List.take_zero, firstF]
 | y :: r, t + 1, v => by
  intro h
  rw [List.take_succ_cons, List.take_succ_cons]
  simp only [firstF]
  by_cases h1 : y.2 ≠ 0
  ·rw [if_pos h1]; intro e; rw [e] at h1; simp at h1
  ·rw [if_neg h1, if_neg h1]; exact firstF_next r t v (by simpa using h)
theorem firstF_bad : ∀ (l : List Nam.F) (t : Nat), (firstF (l.take t)).2 ≠ 0 → firstF l = firstF (l.take t)
 | [], t => by simp
 | x :: r, 0 => by simp [firstF]
 | x :: r, t + 1 => by
  rw [List.take_succ_cons]
  simp only [firstF]
  by_cases h1 : x.2 ≠ 0
  ·rw [if_pos h1, if_pos h1]; exact fun _ => rfl
  ·rw [if_neg h1, if_neg h1]; exact firstF_bad r t
end Ty
theorem tinOrder_any (w : World) (fs : List (Nat × Array Value)) (rs : List Nam.F) (g : Nat) (hl : rs.length = fs.length) (hn : fs.length ≤ 100) (hg : w.heap[g]? = some (.cells (fs.map fun f => Value.func (.func f.1) #[] f.2).toArray 74 (0, 0)))
  (hd : ∀ (i : Nat) (f : Nat × Array Value) (r : Nam.F), fs[i]? = some f → rs[i]? = some r → (∀ args w, (callFunc f.1 args).run Tryz.prog w = .ok (.enter f.1 args) w) ∧ ∀ W, w.grownBy W none → Calls Tryz.prog f.1 f.2 W (fPost W r)) :
  Calls Tryz.prog 28 #[.slice (some ⟨g, 0, none⟩) fs.length fs.length] w (fPost w (Ty.firstF rs)) := by
 obtain ⟨L, hL⟩ : ∃ L, L = fs.length := ⟨_, rfl⟩
 rw [← hL] at hn hl ⊢
 have HL := ld hL
 have Hl := ld hl
 have HGc := ld hg
 have HD := ld hd
 have hlg := gl hg
 have hrb := heap_alloc_new w (.cells #[.int .i64 0, .int .i64 0] 46 (0, 0))
 have HR := ld hrb
 clear hL hl hg hd hrb
 go_enter Tryz.func28, Tryz.ntmps28
 go_wp2
 go_loopw [8] (fun iv wr => ∃ t : Nat, t ≤ L ∧ iv = .int .i64 (t : Int) ∧ Hid (w.grownBy wr none ∧ Ty.firstF (rs.take t) = (0, 0) ∧ wr.heap[w.heap.size]? = some (.cells #[.int .i64 0, .int .i64 0] 46 (0, 0)))) (fun i _ => L - (intOf i).toNat)
 case atStart => exact ⟨0, Nat.zero_le _, rfl, ld ⟨ga _ _ _, by simp [Ty.firstF], HR.out⟩⟩
 case round =>
  obtain ⟨t, htn, rfl, HQ⟩ := hrel
  obtain ⟨q1, q2, hrb⟩ := HQ.out
  by_cases hlt : t < L
  ·obtain ⟨⟨f, caps⟩, hf⟩ : ∃ f, fs[t]? = some f := ⟨_, List.getElem?_eq_getElem (by rw [← HL.out]; exact hlt)⟩
   obtain ⟨⟨y1, y2⟩, hr⟩ : ∃ k, rs[t]? = some k := ⟨_, List.getElem?_eq_getElem (by rw [Hl.out]; exact hlt)⟩
   have hnx := Ty.firstF_next rs t _ hr q2
   have hbd := Ty.firstF_bad rs (t + 1)
   obtain ⟨hen, hdo⟩ := HD.out t _ _ hf hr
   have hc := hdo wr q1
   simp only at hen hc hnx
   have hfc : wr.cell? ⟨g, t, none⟩ = some (.func (.func f) #[] caps) := by
    rw [cell_of_row wr g t _ _ _ ((q1.block _ (gl HGc.out) (by simp)).trans HGc.out)]
    simp [hf]
   have hfd := tfound_any y1 y2
   have HF := ld (And.intro q1 (And.intro hrb (And.intro hnx hbd)))
   clear HQ q1 q2 hrb hf hr hdo hnx hbd
   unfold fPost at hc
   by_cases h0 : y2 = 0
   ·have hb : (y2 != 0) = false := by simp [h0]
    rw [hb] at hfd
    have H0 := ld h0
    clear h0 hb
    go_wp2
    refine hc.mono ?_
    rintro e w1 ⟨rfl, hg1⟩
    go_wp2_with (go_at_call 17; refine (hfd _).mono ?_; rintro e w2 ⟨rfl, hg3⟩; refine Hid.out ?_)
    have hgW := hg1.trans ((ga w1 _ none).trans hg3)
    have HG := ld (And.intro (HF.out.1.trans hgW) (And.intro ((hgW.block _ (gl HF.out.2.1) (by simp)).trans HF.out.2.1) (HF.out.2.2.1.trans (if_neg (by simp [H0.out])))))
    clear hc hg1 hg3 hgW hfc
    refine ld ?_
    go_wp2
    exact ⟨⟨t + 1, by omega, by go_num, ld ⟨HG.out.1, HG.out.2.2, HG.out.2.1⟩⟩, by simp [intOf]; omega⟩
   ·have hb : (y2 != 0) = true := by simp [h0]
    rw [hb] at hfd
    have H0 := ld h0
    clear h0 hb
    go_wp2
    refine hc.mono ?_
    rintro e w1 ⟨rfl, hg1⟩
    go_wp2_with (go_at_call 17; refine (hfd _).mono ?_; rintro e w2 ⟨rfl, hg3⟩; refine Hid.out ?_)
    have hgW := hg1.trans ((ga w1 _ none).trans hg3)
    have hfb := (hg3.block _ (by simp) (by simp)).trans (heap_alloc_new w1 (.cells #[.int .i64 y1, .int .i64 y2] 46 (0, 0)))
    have k0 := cell_of_row _ _ 0 _ _ _ hfb
    have k1 := cell_of_row _ _ 1 _ _ _ hfb
    have hrw := (hgW.block _ (gl HF.out.2.1) (by simp)).trans HF.out.2.1
    have hnx := HF.out.2.2.1
    rw [if_pos H0.out] at hnx
    have hres := HF.out.2.2.2 (by rw [hnx]; exact H0.out)
    rw [hnx] at hres
    have HRES := ld hres
    have HG := ld (HF.out.1.trans hgW)
    clear hc hg1 hg3 hgW hfb hres hnx hfc
    refine ld ?_
    go_wp2_with (with_reducible refine hold_st 2 ?_)
    refine ld ?_
    refine sg hrw ?_
    intro w7 hh7 hg7
    go_wp2
    (try simp only [Exit.inBlock, Exit.then])
    refine br hh7 Tryz.underlying46 ?_
    rw [HRES.out]
    exact ⟨rfl, HG.out.andThen hg7 (fun j e => .inl (by cases e; exact Nat.le_refl _))⟩
  ·have e : t = L := by omega
   subst e
   have HF := ld (And.intro q1 q2)
   clear HQ q1 q2
   go_wp2_with (with_reducible refine hold_st 2 ?_)
   refine ld ?_
   refine sg hrb ?_
   intro w7 hh7 hg7
   go_wp2
   (try simp only [Exit.inBlock, Exit.then])
   refine br hh7 Tryz.underlying46 ?_
   have h9 := HF.out.2
   rw [List.take_of_length_le (by rw [Hl.out]; exact Nat.le_refl _)] at h9
   rw [h9]
   exact ⟨rfl, HF.out.1.andThen hg7 (fun j e => .inl (by cases e; exact Nat.le_refl _))⟩
structure NodeF (w0 : World) (d : Gram.Node) (v : Nv) : Prop where
 ins : RepC w0 0 [] (.l 60 5 (d.ins.map varD)) (.slice v.ua v.un v.uc)
 outs : RepC w0 0 [] (.l 60 5 (d.outs.map varD)) (.slice v.ta v.tn v.tc)
 locals : RepC w0 0 [] (.l 60 5 (d.locals.map varD)) (.slice v.la v.ln v.lc)
 items : RepC w0 0 [] (.l 88 12 (itemsD d.items)) (.slice v.ia v.jn v.ic)
 fv : ∀ x ∈ d.ins ++ d.outs ++ d.locals, Ty.fineV x = true
 fi : ∀ i ∈ d.items, Ty.fineI i = true
 li : d.ins.length ≤ 10000
 lo : d.outs.length ≤ 10000
 ll : d.locals.length ≤ 10000
 lj : d.items.length ≤ 10000
theorem NodeF.vl {w0 w : World} {d : Gram.Node} {v : Nv} (h : NodeF w0 d v) {lb : Nat} (hb : w.heap[lb]? = some (.cells #[.slice v.ua v.un v.uc, .slice v.ta v.tn v.tc, .slice v.la v.ln v.lc] 41 (0, 0))) : VL w0 w lb [(v.ua, v.un, v.uc), (v.ta, v.tn, v.tc), (v.la, v.ln, v.lc)] [d.ins, d.outs, d.locals] := by
 refine ⟨hb, rfl, ?_⟩
 intro j r l h1 h2
 match j, h1, h2 with
 | 0, h1, h2 => cases h1; cases h2; exact h.ins
 | 1, h1, h2 => cases h1; cases h2; exact h.outs
 | 2, h1, h2 => cases h1; cases h2; exact h.locals
 | j + 3, h1, h2 => simp at h1
theorem NodeF.bound {w0 : World} {d : Gram.Node} {v : Nv} (h : NodeF w0 d v) : [d.ins, d.outs, d.locals].flatten.length ≤ 1000000 := by
 have := h.li; have := h.lo; have := h.ll
 simp; omega
theorem tck1 {w0 w : World} (hw : w0.grownBy w none) {d : Gram.Node} {v : Nv} (h : NodeF w0 d v) (nb : Nat) (hb : w.heap[nb]? = some (.cells v.cells 44 (0, 0))) :
  Calls Tryz.prog 29 #[.pointer (some ⟨nb, 0, none⟩)] w (fPost w (Ty.sizes (d.ins ++ d.outs ++ d.locals))) := by
 have hs : d.ins ++ d.outs ++ d.locals = [d.ins, d.outs, d.locals].flatten := by simp
 rw [hs]
 have c1 := cell_of_row _ _ 1 _ _ _ hb
 have c2 := cell_of_row _ _ 2 _ _ _ hb
 have c3 := cell_of_row _ _ 3 _ _ _ hb
 have hlt := gl hb
 have hg2 : w.grownBy ((w.alloc (.cells #[.int .i64 0, .int .i64 0] 46 (0, 0))).alloc (.cells #[.slice v.ua v.un v.uc, .slice v.ta v.tn v.tc, .slice v.la v.ln v.lc] 41 (0, 0))) none := galloc2 w _ _
 have hb2 : ((w.alloc (.cells #[.int .i64 0, .int .i64 0] 46 (0, 0))).alloc (.cells #[.slice v.ua v.un v.uc, .slice v.ta v.tn v.tc, .slice v.la v.ln v.lc] 41 (0, 0))).heap[w.heap.size + 1]? = some (.cells #[.slice v.ua v.un v.uc, .slice v.ta v.tn v.tc, .slice v.la v.ln v.lc] 41 (0, 0)) := heap_alloc_2 w _ _
 have hrb := ((ga (w.alloc (.cells #[.int .i64 0, .int .i64 0] 46 (0, 0))) (.cells #[.slice v.ua v.un v.uc, .slice v.ta v.tn v.tc, .slice v.la v.ln v.lc] 41 (0, 0)) none).block _ (by simp) (by simp)).trans (heap_alloc_new w (.cells #[.int .i64 0, .int .i64 0] 46 (0, 0)))
 have hcc := tconcat_any w0 _ (hw.trans hg2) _ _ _ (h.vl hb2) (by simp) h.bound
 have HR := ld (And.intro hg2 hrb)
 obtain ⟨R, hR⟩ : ∃ R, R = Ty.sizes [d.ins, d.outs, d.locals].flatten := ⟨_, rfl⟩
 rw [← hR]
 have HRR := ld hR
 clear hb h hw hg2 hb2 hrb hR hs
 unfold Nv.cells at *
 simp only [List.length_cons, List.length_nil, Nat.zero_add, Nat.reduceAdd] at hcc
 go_enter Tryz.func29, Tryz.ntmps29
 go_wp2_with (go_at_call 31; refine hcc.mono ?_; rintro e w1 ⟨xa, xn, xc, rfl, hx, hxn, hg1⟩; refine Hid.out ?_)
 have hsz := tsizes_any w1 w1 (World.grownBy.refl _ _) _ xa xn xc hx hxn
 rw [← HRR.out] at hsz
 unfold fPost at hsz
 have HR1 := ld (And.intro (HR.out.1.trans hg1) ((hg1.block _ (gl HR.out.2) (by simp)).trans HR.out.2))
 clear hcc hx hxn hg1 c1 c2 c3
 refine ld ?_
 go_wp2_with (go_at_call 30; refine hsz.mono ?_; rintro e w2 ⟨rfl, hg2⟩; refine Hid.out ?_)
 have hrw := (hg2.block _ (gl HR1.out.2) (by simp)).trans HR1.out.2
 have HG := ld (HR1.out.1.trans hg2)
 clear hsz hg2
 refine ld ?_
 go_wp2_with (with_reducible refine hold_st 1 ?_)
 refine ld ?_
 refine sg hrw ?_
 intro w7 hh7 hg7
 go_wp2
 (try simp only [Exit.inBlock, Exit.then])
 refine br hh7 Tryz.underlying46 ?_
 exact ⟨rfl, HG.out.andThen hg7 (fun j e => .inl (by cases e; exact Nat.le_refl _))⟩
theorem tck2 {w0 w : World} {A : Aa} {N : List (List UInt8 × (Gram.Node × Nv))} {V : List (List UInt8 × Ty.T)} {cnt : Nat} (hA : Ak w0 w A N V cnt) {d : Gram.Node} {v : Nv} (h : NodeF w0 d v) (ab nb : Nat) (ha : w.heap[ab]? = some (.cells #[.pointer (some ⟨A.c, 0, none⟩)] 39 (0, 0))) (hb : w.heap[nb]? = some (.cells v.cells 44 (0, 0))) :
  Calls Tryz.prog 32 #[.pointer (some ⟨ab, 0, none⟩), .pointer (some ⟨nb, 0, none⟩)] w (fPost w (Ty.clocks (stOf N V) d.locals)) := by
 have c3 := cell_of_row _ _ 3 _ _ _ hb
 have hlt := gl hb
 have hla := gl ha
 have hac := cell_of_row _ _ 0 _ _ _ ha
 have hg1 := ga w (.cells #[.int .i64 0, .int .i64 0] 46 (0, 0)) none
 have hrb := heap_alloc_new w (.cells #[.int .i64 0, .int .i64 0] 46 (0, 0))
 have hcc := tclocks_any (hA.kept hg1) d.locals _ _ _ h.locals (by have := (varsLen h.locals).1; have := h.ll; omega) (fun x hx => (fineV_wf (h.fv x (by simp [hx]))).2.2)
 have HR := ld (And.intro hg1 hrb)
 clear hb h hA hg1 hrb ha
 unfold Nv.cells at *
 unfold fPost at hcc
 go_enter Tryz.func32, Tryz.ntmps32
 go_wp2_with (go_at_call 33; refine hcc.mono ?_; rintro e w1 ⟨rfl, hg1⟩; refine Hid.out ?_)
 have hrw := (hg1.block _ (gl HR.out.2) (by simp)).trans HR.out.2
 have HG := ld (HR.out.1.trans hg1)
 clear hcc hg1 c3 hac
 refine ld ?_
 go_wp2_with (with_reducible refine hold_st 2 ?_)
 refine ld ?_
 refine sg hrw ?_
 intro w7 hh7 hg7
 go_wp2
 (try simp only [Exit.inBlock, Exit.then])
 refine br hh7 Tryz.underlying46 ?_
 exact ⟨rfl, HG.out.andThen hg7 (fun j e => .inl (by cases e; exact Nat.le_refl _))⟩
theorem tck3 {w0 w : World} {A : Aa} {N : List (List UInt8 × (Gram.Node × Nv))} {V : List (List UInt8 × Ty.T)} {cnt : Nat} (hA : Ak w0 w A N V cnt) {d : Gram.Node} {v : Nv} (h : NodeF w0 d v) (ab nb : Nat) (ha : w.heap[ab]? = some (.cells #[.pointer (some ⟨A.c, 0, none⟩)] 39 (0, 0))) (hb : w.heap[nb]? = some (.cells v.cells 44 (0, 0))) :
  Calls Tryz.prog 34 #[.pointer (some ⟨ab, 0, none⟩), .pointer (some ⟨nb, 0, none⟩)] w (fPost w (Ty.items (stOf N V) d.items)) := by
 have c3 := cell_of_row _ _ 4 _ _ _ hb
 have hlt := gl hb
 have hla := gl ha
 have hac := cell_of_row _ _ 0 _ _ _ ha
 have hg1 := ga w (.cells #[.int .i64 0, .int .i64 0] 46 (0, 0)) none
 have hrb := heap_alloc_new w (.cells #[.int .i64 0, .int .i64 0] 46 (0, 0))
 have hcc := titems_any (hA.kept hg1) d.items _ _ _ h.items (by have := (nLen h.items).1; rw [itemsD_map, List.length_map] at this; have := h.lj; omega) h.fi
 have HR := ld (And.intro hg1 hrb)
 clear hb h hA hg1 hrb ha
 unfold Nv.cells at *
 unfold fPost at hcc
 go_enter Tryz.func34, Tryz.ntmps34
 go_wp2_with (go_at_call 35; refine hcc.mono ?_; rintro e w1 ⟨rfl, hg1⟩; refine Hid.out ?_)
 have hrw := (hg1.block _ (gl HR.out.2) (by simp)).trans HR.out.2
 have HG := ld (HR.out.1.trans hg1)
 clear hcc hg1 c3 hac
 refine ld ?_
 go_wp2_with (with_reducible refine hold_st 2 ?_)
 refine ld ?_
 refine sg hrw ?_
 intro w7 hh7 hg7
 go_wp2
 (try simp only [Exit.inBlock, Exit.then])
 refine br hh7 Tryz.underlying46 ?_
 exact ⟨rfl, HG.out.andThen hg7 (fun j e => .inl (by cases e; exact Nat.le_refl _))⟩
theorem node_eq (N : List (List UInt8 × (Gram.Node × Nv))) (V : List (List UInt8 × Ty.T)) (d : Gram.Node) (L : List Gram.Var) (hL : L = [d.ins, d.outs, d.locals].flatten) :
  Ty.node (stOf N V) d = (Ty.firstF [Ty.sizes (d.ins ++ d.outs ++ d.locals), Ty.clocks (stOf N (entV V L)) d.locals, Ty.items (stOf N (entV V L)) d.items], stOf N (leaV (entV V L) L)) := by
 have hL2 : L = d.ins ++ d.outs ++ d.locals := by rw [hL]; simp
 have e1 : Ty.enter (Ty.enter (Ty.enter (stOf N V) d.ins) d.outs) d.locals = stOf N (entV V L) := by
  rw [hL2, entV_app, entV_app]; rfl
 have e2 : Ty.leave (Ty.leave (Ty.leave (stOf N (entV V L)) d.ins) d.outs) d.locals = stOf N (leaV (entV V L) L) := by
  rw [hL2, leaV_app, leaV_app]; rfl
 unfold Ty.node
 simp only
 rw [e1, e2]
 simp only [Ty.firstF]
 by_cases h3 : (Ty.items (stOf N (entV V L)) d.items).2 ≠ 0
 ·rw [if_pos h3]
 ·rw [if_neg h3, Ty.items_ok _ _ (by simpa using h3)]
theorem tcall1 : ∀ args w, (callFunc 29 args).run Tryz.prog w = .ok (.enter 29 args) w := by intro _ _; kernel_rfl
theorem tcall2 : ∀ args w, (callFunc 32 args).run Tryz.prog w = .ok (.enter 32 args) w := by intro _ _; kernel_rfl
theorem tcall3 : ∀ args w, (callFunc 34 args).run Tryz.prog w = .ok (.enter 34 args) w := by intro _ _; kernel_rfl
theorem tcheckNode_any {w0 w : World} {A : Aa} {N : List (List UInt8 × (Gram.Node × Nv))} {V : List (List UInt8 × Ty.T)} {cnt : Nat} (hA : Ak w0 w A N V cnt) {d : Gram.Node} {v : Nv} (h : NodeF w0 d v) (hcnt : cnt ≤ 999000000) (L : List Gram.Var) (hL : L = [d.ins, d.outs, d.locals].flatten) :
  Calls Tryz.prog 16 #[.pointer (some ⟨A.c, 0, none⟩), .agg v.cells] w fun e w' => e = .returned (.agg #[.int .i64 (Ty.node (stOf N V) d).1.1, .int .i64 (Ty.node (stOf N V) d).1.2]) ∧ Ak w0 w' A N (leaV (entV V L) L) (cnt + L.length) ∧ w.grownBy w' (some A.vb) := by
 have hmf : ∀ (fn : Fn) (first cap : Array Value) (w : World), (Instr.makeFunc fn first cap).run Tryz.prog w = .ok (.func fn first cap) w := fun _ _ _ _ => rfl
 rw [node_eq N V d L hL]
 simp only
 obtain ⟨F, hF⟩ : ∃ F, F = Ty.firstF [Ty.sizes (d.ins ++ d.outs ++ d.locals), Ty.clocks (stOf N (entV V L)) d.locals, Ty.items (stOf N (entV V L)) d.items] := ⟨_, rfl⟩
 rw [← hF]
 have HF := ld hF
 clear hF
 obtain ⟨Wa, hWa⟩ : ∃ W, W = w.alloc (.cells #[.pointer (some ⟨A.c, 0, none⟩)] 39 (0, 0)) := ⟨_, rfl⟩
 obtain ⟨Wb, hWb⟩ : ∃ W, W = Wa.alloc (.cells v.cells 44 (0, 0)) := ⟨_, rfl⟩
 obtain ⟨Wc, hWc⟩ : ∃ W, W = Wb.alloc (.cells #[.int .i64 0, .int .i64 0] 46 (0, 0)) := ⟨_, rfl⟩
 obtain ⟨Wd, hWd⟩ : ∃ W, W = Wc.alloc (.cells #[.slice v.ua v.un v.uc, .slice v.ta v.tn v.tc, .slice v.la v.ln v.lc] 41 (0, 0)) := ⟨_, rfl⟩
 have ga : w.grownBy Wa none := by rw [hWa]; exact World.grownBy_alloc _ _ _
 have gb : Wa.grownBy Wb none := by rw [hWb]; exact World.grownBy_alloc _ _ _
 have gc : Wb.grownBy Wc none := by rw [hWc]; exact World.grownBy_alloc _ _ _
 have gd : Wc.grownBy Wd none := by rw [hWd]; exact World.grownBy_alloc _ _ _
 have za : Wa.heap.size = w.heap.size + 1 := by rw [hWa]; simp
 have zb : Wb.heap.size = w.heap.size + 1 + 1 := by rw [hWb]; simp [za]
 have zc : Wc.heap.size = w.heap.size + 1 + 1 + 1 := by rw [hWc]; simp [zb]
 have ba : Wd.heap[w.heap.size]? = some (.cells #[.pointer (some ⟨A.c, 0, none⟩)] 39 (0, 0)) := (((gb.trans gc).trans gd).block _ (by omega) (by simp)).trans (by rw [hWa]; exact heap_alloc_new w _)
 have bb : Wd.heap[w.heap.size + 1]? = some (.cells v.cells 44 (0, 0)) := ((gc.trans gd).block _ (by omega) (by simp)).trans (by rw [hWb, ← za]; exact heap_alloc_new Wa _)
 have bc : Wd.heap[w.heap.size + 1 + 1]? = some (.cells #[.int .i64 0, .int .i64 0] 46 (0, 0)) := (gd.block _ (by omega) (by simp)).trans (by rw [hWc, ← zb]; exact heap_alloc_new Wb _)
 have bd : Wd.heap[w.heap.size + 1 + 1 + 1]? = some (.cells #[.slice v.ua v.un v.uc, .slice v.ta v.tn v.tc, .slice v.la v.ln v.lc] 41 (0, 0)) := by rw [hWd, ← zc]; exact heap_alloc_new Wc _
 have gW := ((ga.trans gb).trans gc).trans gd
 have hlt := hA.lt
 have hAd := hA.kept gW
 have hent := tenter_any hAd _ _ _ (h.vl bd) (by omega) (by
  intro l hl x hx
  apply h.fv x
  simp only [List.mem_cons, List.not_mem_nil, or_false] at hl
  rcases hl with rfl | rfl | rfl <;> simp [hx]) (by simp) h.bound (by omega)
 rw [← hL] at hent
 simp only [List.length_cons, List.length_nil, Nat.zero_add, Nat.reduceAdd] at hent
 have hfv : ∀ l ∈ [d.ins, d.outs, d.locals], ∀ x ∈ l, Ty.fineV x = true := by
  intro l hl x hx
  apply h.fv x
  simp only [List.mem_cons, List.not_mem_nil, or_false] at hl
  rcases hl with rfl | rfl | rfl <;> simp [hx]
 have H := ld (And.intro h hfv)
 have HL := ld hL
 have HB := ld (And.intro ba (And.intro bb (And.intro bc gW)))
 have HLT := ld hlt
 have HBS := ld hA.base.size
 have hE : (((w.alloc (.cells #[.pointer (some ⟨A.c, 0, none⟩)] 39 (0, 0))).alloc (.cells v.cells 44 (0, 0))).alloc (.cells #[.int .i64 0, .int .i64 0] 46 (0, 0))).alloc (.cells #[.slice v.ua v.un v.uc, .slice v.ta v.tn v.tc, .slice v.la v.ln v.lc] 41 (0, 0)) = Wd := by rw [hWd, hWc, hWb, hWa]
 clear hWa hWb hWc hWd ga gb gc gd za zb zc ba bb bc bd gW hlt hAd hA h hL hfv
 have hent2 := hent
 rw [← hE] at hent2
 unfold Nv.cells at *
 have HE := ld hE
 clear hE hent
 go_enter_defers Tryz.func16, Tryz.ntmps16
 go_wp2_with (go_at_call 26; refine hent2.mono ?_; rintro e w1 ⟨rfl, hA1, hg1⟩; refine Hid.out ?_)
 rw [HE.out] at hg1
 have nvb : ∀ k, w.heap.size ≤ k → some k ≠ some A.vb := fun k hk => by have := HLT.out.2.2.2; simp; omega
 have ba := (hg1.block _ (gl HB.out.1) (nvb _ (by omega))).trans HB.out.1
 have bb := (hg1.block _ (gl HB.out.2.1) (nvb _ (by omega))).trans HB.out.2.1
 have bc := (hg1.block _ (gl HB.out.2.2.1) (nvb _ (by omega))).trans HB.out.2.2.1
 have gW1 : w.grownBy w1 (some A.vb) := (grown_some HB.out.2.2.2 A.vb).trans hg1
 obtain ⟨We, hWe⟩ : ∃ W, W = w1.alloc (.cells #[.slice v.ua v.un v.uc, .slice v.ta v.tn v.tc, .slice v.la v.ln v.lc] 41 (0, 0)) := ⟨_, rfl⟩
 obtain ⟨Wf, hWf⟩ : ∃ W, W = We.alloc (.cells #[.func (.func 29) #[] #[.pointer (some ⟨w.heap.size + 1, 0, none⟩)], .func (.func 32) #[] #[.pointer (some ⟨w.heap.size, 0, none⟩), .pointer (some ⟨w.heap.size + 1, 0, none⟩)], .func (.func 34) #[] #[.pointer (some ⟨w.heap.size, 0, none⟩), .pointer (some ⟨w.heap.size + 1, 0, none⟩)]] 74 (0, 0)) := ⟨_, rfl⟩
 have ge : w1.grownBy We none := by rw [hWe]; exact World.grownBy_alloc _ _ _
 have gf : We.grownBy Wf none := by rw [hWf]; exact World.grownBy_alloc _ _ _
 have ze : We.heap.size = w1.heap.size + 1 := by rw [hWe]; simp
 have be : Wf.heap[w1.heap.size]? = some (.cells #[.slice v.ua v.un v.uc, .slice v.ta v.tn v.tc, .slice v.la v.ln v.lc] 41 (0, 0)) := (gf.block _ (by omega) (by simp)).trans (by rw [hWe]; exact heap_alloc_new w1 _)
 have bf : Wf.heap[w1.heap.size + 1]? = some (.cells #[.func (.func 29) #[] #[.pointer (some ⟨w.heap.size + 1, 0, none⟩)], .func (.func 32) #[] #[.pointer (some ⟨w.heap.size, 0, none⟩), .pointer (some ⟨w.heap.size + 1, 0, none⟩)], .func (.func 34) #[] #[.pointer (some ⟨w.heap.size, 0, none⟩), .pointer (some ⟨w.heap.size + 1, 0, none⟩)]] 74 (0, 0)) := by rw [hWf, ← ze]; exact heap_alloc_new We _
 have gef := ge.trans gf
 have hAf := hA1.kept gef
 have ba2 := (gef.block _ (gl ba) (by simp)).trans ba
 have bb2 := (gef.block _ (gl bb) (by simp)).trans bb
 have bc2 := (gef.block _ (gl bc) (by simp)).trans bc
 have hin := tinOrder_any Wf [(29, #[.pointer (some ⟨w.heap.size + 1, 0, none⟩)]), (32, #[.pointer (some ⟨w.heap.size, 0, none⟩), .pointer (some ⟨w.heap.size + 1, 0, none⟩)]), (34, #[.pointer (some ⟨w.heap.size, 0, none⟩), .pointer (some ⟨w.heap.size + 1, 0, none⟩)])] [Ty.sizes (d.ins ++ d.outs ++ d.locals), Ty.clocks (stOf N (entV V L)) d.locals, Ty.items (stOf N (entV V L)) d.items] (w1.heap.size + 1) rfl (by simp) bf (by
  intro i f r h1 h2
  match i, h1, h2 with
  | 0, h1, h2 => cases h1; cases h2; exact ⟨tcall1, fun W hW => tck1 (hAf.base.trans hW) H.out.1 _ ((hW.block _ (gl bb2) (by simp)).trans bb2)⟩
  | 1, h1, h2 => cases h1; cases h2; exact ⟨tcall2, fun W hW => tck2 (hAf.kept hW) H.out.1 _ _ ((hW.block _ (gl ba2) (by simp)).trans ba2) ((hW.block _ (gl bb2) (by simp)).trans bb2)⟩
  | 2, h1, h2 => cases h1; cases h2; exact ⟨tcall3, fun W hW => tck3 (hAf.kept hW) H.out.1 _ _ ((hW.block _ (gl ba2) (by simp)).trans ba2) ((hW.block _ (gl bb2) (by simp)).trans bb2)⟩
  | i + 3, h1, h2 => simp at h1)
 rw [← HF.out] at hin
 have hWF : (w1.alloc (.cells #[.slice v.ua v.un v.uc, .slice v.ta v.tn v.tc, .slice v.la v.ln v.lc] 41 (0, 0))).alloc (.cells #[.func (.func 29) #[] #[.pointer (some ⟨w.heap.size + 1, 0, none⟩)], .func (.func 32) #[] #[.pointer (some ⟨w.heap.size, 0, none⟩), .pointer (some ⟨w.heap.size + 1, 0, none⟩)], .func (.func 34) #[] #[.pointer (some ⟨w.heap.size, 0, none⟩), .pointer (some ⟨w.heap.size + 1, 0, none⟩)]] 74 (0, 0)) = Wf := by rw [hWf, hWe]
 have hin2 := hin
 simp only [List.length_cons, List.length_nil, Nat.zero_add, Nat.reduceAdd] at hin2
 rw [← hWF] at hin2
 unfold fPost at hin2
 have a0 := cell_of_row _ _ 0 _ _ _ ba
 have b1 := cell_of_row _ _ 1 _ _ _ bb
 have b2 := cell_of_row _ _ 2 _ _ _ bb
 have b3 := cell_of_row _ _ 3 _ _ _ bb
 have l0 := gl ba
 have l1 := gl bb
 have HWF := ld hWF
 have HS1 := ld (show w.heap.size + 1 + 1 < w1.heap.size from gl bc)
 have HX := ld (And.intro hAf (And.intro be (And.intro bc2 (gW1.andThen gef (fun j e => by cases e)))))
 clear hin hWF hWe hWf ge gf ze be bf gef hAf ba bb bc ba2 bb2 bc2 gW1 hg1 hA1 hent2
 refine ld ?_
 go_wp2_with (go_at_call 28; refine hin2.mono ?_; rintro e w2 ⟨rfl, hg2⟩; refine Hid.out ?_)
 rw [HWF.out] at hg2
 obtain ⟨x1, x2, x3, x4⟩ := HX.out
 have hrw := (hg2.block _ (gl x3) (by simp)).trans x3
 have HY := ld (And.intro (x1.kept hg2) (And.intro ((hg2.block _ (gl x2) (by simp)).trans x2) (x4.andThen hg2 (fun j e => by cases e))))
 clear hin2 a0 b1 b2 b3 x1 x2 x3 x4 hg2
 refine ld ?_
 go_wp2_with (with_reducible refine hold_st 4 ?_)
 refine ld ?_
 refine sg hrw ?_
 intro w7 hh7 hg7
 have hlt := HLT.out
 have hA7 := HY.out.1.keptB hg7 (fun k e => by cases e; exact ⟨by have := HBS.out; omega, by simp; omega⟩)
 have be7 := (hg7.block _ (gl HY.out.2.1) (by have := HS1.out; simp; omega)).trans HY.out.2.1
 have hle := tleave_any hA7 _ _ _ (H.out.1.vl be7) (by have := HS1.out; omega) H.out.2 (by simp) H.out.1.bound .returning
 rw [← HL.out] at hle
 simp only [List.length_cons, List.length_nil, Nat.zero_add, Nat.reduceAdd] at hle
 have HG := ld (HY.out.2.2.andThen hg7 (fun j e => .inl (by cases e; omega)))
 clear hA7 be7 hg7 hrw
 go_wp2
 refine leaves_cons (f := 27) (args := #[.pointer (some ⟨A.c, 0, none⟩), .slice (some ⟨w1.heap.size, 0, none⟩) 3 3]) (by simp) (by simp [go_sem]) ?_
 refine hle.mono ?_
 rintro e u' w9 ⟨rfl, rfl, hA9, hg9⟩
 exact ⟨_, results_cell_row (by exact rfl) _ _ (w.heap.size + 1 + 1) _ _ (0, 0) _ (by exact rfl) ((hg9.block _ (gl hh7) (by simp; omega)).trans hh7) Tryz.underlying46 (by exact rfl) (by kernel_rfl), rfl, hA9, HG.out.trans hg9⟩
theorem trules_any (w : World) :
  Calls Tryz.prog 25 #[] w fun e w' => e = .returned (.slice (some ⟨w.heap.size, 0, none⟩) 20 20) ∧ w' = w.alloc (.cells rulesT.toArray 101 (0, 0)) := by
 go_enter Tryz.func25, Tryz.ntmps25
 go_wp2
 go_ret
 exact ⟨rfl, rfl⟩
namespace Ty
def fineN (n : Gram.Node) : Bool := Nam.short n.name && (n.ins ++ n.outs ++ n.locals).all fineV && n.items.all fineI && decide (n.ins.length ≤ 10000) && decide (n.outs.length ≤ 10000) && decide (n.locals.length ≤ 10000) && decide (n.items.length ≤ 10000)
def namesN (l : List Gram.Node) : List (Gram.B × Gram.Node) := l.foldl (fun a n => (n.name, n) :: a) []
theorem namesN_one (l : List Gram.Node) (t : Nat) (n : Gram.Node) (h : l[t]? = some n) : namesN (l.take (t + 1)) = (n.name, n) :: namesN (l.take t) := by
 unfold namesN
 rw [List.take_add_one, h, List.foldl_append]; rfl
end Ty
theorem nodeF_of {w0 : World} {n : Gram.Node} {ua un uc ta tn tc la ln lc ia jn ic} (hf : Ty.fineN n = true) (h1 : RepC w0 0 [] (.l 60 5 (n.ins.map varD)) (.slice ua un uc)) (h2 : RepC w0 0 [] (.l 60 5 (n.outs.map varD)) (.slice ta tn tc)) (h3 : RepC w0 0 [] (.l 60 5 (n.locals.map varD)) (.slice la ln lc)) (h4 : RepC w0 0 [] (.l 88 12 (itemsD n.items)) (.slice ia jn ic)) :
  Nam.short n.name = true ∧ NodeF w0 n ⟨n.name, ua, un, uc, ta, tn, tc, la, ln, lc, ia, jn, ic, n.at_⟩ := by
 unfold Ty.fineN at hf
 simp only [Bool.and_eq_true, decide_eq_true_eq, List.all_eq_true] at hf
 obtain ⟨⟨⟨⟨⟨⟨f1, f2⟩, f3⟩, f4⟩, f5⟩, f6⟩, f7⟩ := hf
 exact ⟨f1, h1, h2, h3, h4, f2, f3, f4, f5, f6, f7⟩
theorem NodeF.v {w0 : World} {d : Gram.Node} {v : Nv} (h : NodeF w0 d v) : NodeV w0 d v :=
 ⟨h.ins, h.outs, fun x hx => by
  obtain ⟨y, hy, rfl⟩ := List.mem_map.1 hx
  exact (fineV_wf (h.fv y (by simp [hy]))).2.1, fun x hx => by
  obtain ⟨y, hy, rfl⟩ := List.mem_map.1 hx
  exact (fineV_wf (h.fv y (by simp [hy]))).2.1, h.li, h.lo⟩
structure An (w0 w : World) (A : Aa) (l : List Gram.Node) (n : Nat) : Prop where
 base : w0.grownBy w none
 lo : w0.heap.size ≤ A.c ∧ w0.heap.size ≤ A.rb ∧ w0.heap.size ≤ A.nb ∧ w0.heap.size ≤ A.vb
 ne : A.vb ∉ [A.c, A.rb, A.nb]
 ne2 : A.nb ∉ [A.c, A.rb]
 cc : w.heap[A.c]? = some (.cells #[.slice (some ⟨A.rb, 0, none⟩) 20 20, .map (some A.nb), .map (some A.vb)] 69 (0, 0))
 rr : w.heap[A.rb]? = some (.cells rulesT.toArray 101 (0, 0))
 vv : HMap w A.vb 0 []
 nn : ∃ NL : List (List UInt8 × (Gram.Node × Nv)), HMap w A.nb n (NL.map fun x => (x.1, Value.agg x.2.2.cells)) ∧ (NL.map fun x => (x.1, x.2.1)) = Ty.namesN l ∧ ∀ x ∈ NL, NodeV w0 x.2.1 x.2.2
theorem An.kept {w0 w w' : World} {A : Aa} {l : List Gram.Node} {n : Nat} (h : An w0 w A l n) (hg : w.grownBy w' none) : An w0 w' A l n := by
 obtain ⟨NL, n1, n2⟩ := h.nn
 exact ⟨h.base.trans hg, h.lo, h.ne, h.ne2, (hg.block _ (gl h.cc) (by simp)).trans h.cc, (hg.block _ (gl h.rr) (by simp)).trans h.rr, h.vv.kept hg (by simp), NL, n1.kept hg (by simp), n2⟩
theorem An.put {w0 w : World} {A : Aa} {l : List Gram.Node} {n : Nat} (h : An w0 w A l n) (hn : n < maxLen) (d : Gram.Node) (v : Nv) (hs : Nam.short d.name = true) (hv : NodeV w0 d v) (l' : List Gram.Node) (hl : Ty.namesN l' = (d.name, d) :: Ty.namesN l) :
  ∃ w', (Instr.mapUpdate 66 (.map (some A.nb)) (.string ⟨d.name.toArray⟩) (.agg v.cells)).run Tryz.prog w = .ok () w' ∧ An w0 w' A l' (n + 1) ∧ w.grownBy w' (some A.nb) := by
 obtain ⟨NL, n1, n2, n3⟩ := h.nn
 obtain ⟨w', hr, hm, hg⟩ := n1.put Tryz.underlying66 hn d.name hs (.agg v.cells)
 have h1 := h.ne
 have h2 := h.ne2
 simp only [List.mem_cons, List.not_mem_nil, or_false, not_or] at h1 h2
 refine ⟨w', hr, ⟨h.base.andThen hg (fun j e => .inl (by cases e; exact h.lo.2.2.1)), h.lo, h.ne, h.ne2, (hg.block _ (gl h.cc) (by simpa using Ne.symm h2.1)).trans h.cc, (hg.block _ (gl h.rr) (by simpa using Ne.symm h2.2)).trans h.rr, h.vv.kept hg (by simpa using h1.2.2), (d.name, (d, v)) :: NL, hm, ?_, ?_⟩, hg⟩
 ·rw [List.map_cons, n2, hl]
 ·intro x hx
  rcases List.mem_cons.1 hx with rfl | hx
  ·exact hv
  ·exact n3 x hx
theorem An.lt {w0 w : World} {A : Aa} {l : List Gram.Node} {n : Nat} (h : An w0 w A l n) : A.c < w.heap.size ∧ A.nb < w.heap.size := by
 obtain ⟨NL, n1, n2⟩ := h.nn
 exact ⟨gl h.cc, n1.lt⟩
theorem tnewAsker_any (w : World) (l : List Gram.Node) (a : Option Addr) (n c : Nat) (h : RepC w 0 [] (.l 44 6 (l.map nodeD)) (.slice a n c)) (hm : l.length ≤ 10000) (hf : ∀ x ∈ l, Ty.fineN x = true) :
  Calls Tryz.prog 15 #[.agg #[.slice a n c]] w fun e w' => ∃ A, e = .returned (.pointer (some ⟨A.c, 0, none⟩)) ∧ An w w' A l n := by
 have hL := (nLen h).1
 rw [List.length_map] at hL
 have hn : n ≤ 10000 := by omega
 have HL := ld hL
 have H := ld h
 have HF := ld hf
 clear h hL hm hf
 obtain ⟨Wa, hWa⟩ : ∃ W, W = w.alloc (.cells #[.slice a n c] 27 (0, 0)) := ⟨_, rfl⟩
 have hr := trules_any Wa
 have ga : w.grownBy Wa none := by rw [hWa]; exact World.grownBy_alloc _ _ _
 have za : Wa.heap.size = w.heap.size + 1 := by rw [hWa]; simp
 have ba : Wa.heap[w.heap.size]? = some (.cells #[.slice a n c] 27 (0, 0)) := by rw [hWa]; exact heap_alloc_new _ _
 obtain ⟨Wb, hWb⟩ : ∃ W, W = Wa.alloc (.cells rulesT.toArray 101 (0, 0)) := ⟨_, rfl⟩
 have gb : Wa.grownBy Wb none := by rw [hWb]; exact World.grownBy_alloc _ _ _
 have zb : Wb.heap.size = w.heap.size + 1 + 1 := by rw [hWb]; simp [za]
 have bb : Wb.heap[w.heap.size + 1]? = some (.cells rulesT.toArray 101 (0, 0)) := by rw [hWb, ← za]; exact heap_alloc_new _ _
 obtain ⟨Wc, hWc⟩ : ∃ W, W = Wb.alloc (.map #[] 0) := ⟨_, rfl⟩
 have gc : Wb.grownBy Wc none := by rw [hWc]; exact World.grownBy_alloc _ _ _
 have zc : Wc.heap.size = w.heap.size + 1 + 1 + 1 := by rw [hWc]; simp [zb]
 have mc : HMap Wc (w.heap.size + 1 + 1) 0 [] := by rw [hWc, ← zb]; exact HMap.new Wb
 obtain ⟨Wd, hWd⟩ : ∃ W, W = Wc.alloc (.map #[] 0) := ⟨_, rfl⟩
 have gd : Wc.grownBy Wd none := by rw [hWd]; exact World.grownBy_alloc _ _ _
 have zd : Wd.heap.size = w.heap.size + 1 + 1 + 1 + 1 := by rw [hWd]; simp [zc]
 have md : HMap Wd (w.heap.size + 1 + 1 + 1) 0 [] := by rw [hWd, ← zc]; exact HMap.new Wc
 obtain ⟨We, hWe⟩ : ∃ W, W = Wd.alloc (.cells #[.slice (some ⟨w.heap.size + 1, 0, none⟩) 20 20, .map (some (w.heap.size + 1 + 1)), .map (some (w.heap.size + 1 + 1 + 1))] 69 (0, 0)) := ⟨_, rfl⟩
 have ge : Wd.grownBy We none := by rw [hWe]; exact World.grownBy_alloc _ _ _
 have be : We.heap[w.heap.size + 1 + 1 + 1 + 1]? = some (.cells #[.slice (some ⟨w.heap.size + 1, 0, none⟩) 20 20, .map (some (w.heap.size + 1 + 1)), .map (some (w.heap.size + 1 + 1 + 1))] 69 (0, 0)) := by rw [hWe, ← zd]; exact heap_alloc_new _ _
 obtain ⟨A, hAA⟩ : ∃ A : Aa, A = ⟨w.heap.size + 1 + 1 + 1 + 1, w.heap.size + 1, w.heap.size + 1 + 1, w.heap.size + 1 + 1 + 1⟩ := ⟨_, rfl⟩
 have gce := (gd.trans ge)
 have hAn : An w We A [] 0 := by
  subst hAA
  exact ⟨(((ga.trans gb).trans gc).trans gd).trans ge, by simp; omega, by simp [Nat.add_assoc], by simp [Nat.add_assoc], be, (((gc.trans gd).trans ge).block _ (gl bb) (by simp)).trans bb, md.kept ge (by simp), [], mc.kept gce (by simp), rfl, by simp⟩
 have bp : We.heap[w.heap.size]? = some (.cells #[.slice a n c] 27 (0, 0)) := ((((gb.trans gc).trans gd).trans ge).block _ (gl ba) (by simp)).trans ba
 have p0 : Wb.cell? ⟨w.heap.size, 0, none⟩ = some (.slice a n c) := cell_of_row _ _ 0 _ _ _ ((gb.block _ (gl ba) (by simp)).trans ba)
 have hS : (((Wb.alloc (.map #[] 0)).alloc (.map #[] 0)).alloc (.cells #[.slice (some ⟨w.heap.size + 1, 0, none⟩) 20 20, .map (some (w.heap.size + 1 + 1)), .map (some (w.heap.size + 1 + 1 + 1))] 69 (0, 0))) = We := by rw [hWe, hWd, hWc]
 have HAn := ld hAn
 have HAA := ld hAA
 have HS := ld hS
 have HZ := ld (And.intro zb (And.intro zc zd))
 rw [hWa] at hr
 have HWb := ld (hWb.trans (by rw [hWa]))
 have hmm := @run_makeMap Tryz.prog
 clear hWa hWb hWc hWd hWe ga gb gc gd ge za ba bb zc mc zd md be gce hAn bp hS hAA
 go_enter Tryz.func15, Tryz.ntmps15
 go_wp2_with (go_at_call 25; refine hr.mono ?_; rintro e w1 ⟨rfl, hw1⟩; rw [← HWb.out] at hw1; refine Hid.out ?_)
 subst hw1
 simp only [World.size_alloc] at *
 refine ld ?_
 go_wp2
 rw [show w.heap.size + 1 + 1 + 1 + 1 = A.c by rw [HAA.out]]
 have HS2 := ld HS.out
 go_loopw [14] (fun iv wr => ∃ t : Nat, t ≤ n ∧ iv = .int .i64 (t : Int) ∧ Hid (An w wr A (l.take t) t)) (fun i _ => n - (intOf i).toNat)
 case atStart => exact ⟨0, Nat.zero_le _, rfl, ld (by first | (rw [HS2.out]; exact HAn.out) | (have h9 := HS2.out; have h8 := HAn.out; rw [← h9] at h8; simpa using h8))⟩
 case round =>
  obtain ⟨t, htn, rfl, HQ⟩ := hrel
  by_cases hlt : t < n
  ·obtain ⟨x, hx⟩ : ∃ x, l[t]? = some x := ⟨_, List.getElem?_eq_getElem (by rw [← HL.out]; exact hlt)⟩
   obtain ⟨g, ua, un, uc, ta, tn, tc, la, ln, lc, ia, jn, ic, rfl, ⟨u0, u1, u2, u3, u4, u5⟩, r1, r2, r3, r4⟩ := nodeAt H.out hx
   obtain ⟨hs, hnf⟩ := nodeF_of (HF.out x (List.mem_of_getElem? hx)) r1 r2 r3 r4
   have hone := Ty.namesN_one l t x hx
   have hbs := HQ.out.base
   have v0 := hbs.cell u0 (by simp)
   have v1 := hbs.cell u1 (by simp)
   have v2 := hbs.cell u2 (by simp)
   have v3 := hbs.cell u3 (by simp)
   have v4 := hbs.cell u4 (by simp)
   have v5 := hbs.cell u5 (by simp)
   obtain ⟨W1, hW1⟩ : ∃ W1, W1 = wr.alloc (.cells #[.string ⟨x.name.toArray⟩, .slice ua un uc, .slice ta tn tc, .slice la ln lc, .slice ia jn ic, .int .i64 x.at_] 44 (0, 0)) := ⟨_, rfl⟩
   have hga : wr.grownBy W1 none := by rw [hW1]; exact ga wr _ none
   have hvb : W1.heap[wr.heap.size]? = some (.cells #[.string ⟨x.name.toArray⟩, .slice ua un uc, .slice ta tn tc, .slice la ln lc, .slice ia jn ic, .int .i64 x.at_] 44 (0, 0)) := by rw [hW1]; exact heap_alloc_new wr _
   obtain ⟨w4, hrun, hA4, hg4⟩ := ((HQ.out.kept hga).kept (gdrew (World.grownBy.refl W1 none))).put (by unfold maxLen; omega) x _ hs hnf.v (l.take (t + 1)) hone
   unfold Nv.cells at hrun
   simp only at hrun
   have hcc := cell_of_row _ _ 1 _ _ _ (HQ.out.kept hga).cc
   have hne2 := HQ.out.ne2
   simp only [List.mem_cons, List.not_mem_nil, or_false, not_or] at hne2
   have hnl := HQ.out.lt.2
   have i0 := cell_of_row _ _ 0 _ _ _ hvb
   have i1 := cell_of_row _ _ 1 _ _ _ hvb
   have i2 := cell_of_row _ _ 2 _ _ _ hvb
   have i3 := cell_of_row _ _ 3 _ _ _ hvb
   have i4 := cell_of_row _ _ 4 _ _ _ hvb
   have i5 := cell_of_row _ _ 5 _ _ _ hvb
   have hS4 : W1.grownBy w4 (some A.nb) := ((World.grownBy.refl W1 (some A.nb)).andThen (gdrew (World.grownBy.refl W1 none)) (fun j e => by cases e)).trans hg4
   have hk1 : some wr.heap.size ≠ some A.nb := by simp; omega
   have hk2 : some A.c ≠ some A.nb := by simpa using Ne.symm hne2.1
   have HG := ld hA4
   have HW1 := ld hW1
   clear hW1 HQ hx u0 u1 u2 u3 u4 u5 r1 r2 r3 r4 hbs hs hnf hone hA4 hg4 hne2 hnl hvb hga
   go_wp2
   rw [← HW1.out]
   refine wp_region_L (S := fun V => W1.grownBy V (some A.nb)) (Z := []) (by kernel_rfl) ?_
   have hS : W1.grownBy W1.drew (some A.nb) := (World.grownBy.refl W1 (some A.nb)).andThen (gdrew (World.grownBy.refl W1 none)) (fun j e => by cases e)
   refine Wl.t1 0 18 (.pointer (some ⟨A.c, 0, none⟩)) hS ?_
   (try simp only [Act.put, Wl.sA, Wl.sB, Wl.sC])
   refine Wl.t1 1 19 (.pointer (some ⟨A.c, 0, none⟩)) hS ?_
   (try simp only [Act.put, Wl.sA, Wl.sB, Wl.sC])
   refine Wl.t1 2 20 (.pointer (some ⟨A.c, 1, none⟩)) hS ?_
   (try simp only [Act.put, Wl.sA, Wl.sB, Wl.sC])
   refine Wl.t2 3 21 (.map (some A.nb)) (fun w' hw' => ?_) hS ?_
   ·have z0 := hw'.cell hcc hk2; clear hw'; go_simp
   (try simp only [Act.put, Wl.sA, Wl.sB, Wl.sC])
   refine Wl.t1 4 22 (.pointer (some ⟨wr.heap.size, 0, none⟩)) hS ?_
   (try simp only [Act.put, Wl.sA, Wl.sB, Wl.sC])
   refine Wl.t2 5 23 (.string ⟨x.name.toArray⟩) (fun w' hw' => ?_) hS ?_
   ·have z0 := hw'.cell i0 hk1; clear hw'; go_simp
   (try simp only [Act.put, Wl.sA, Wl.sB, Wl.sC])
   refine Wl.t2 6 24 (.agg #[.string ⟨x.name.toArray⟩, .slice ua un uc, .slice ta tn tc, .slice la ln lc, .slice ia jn ic, .int .i64 x.at_]) (fun w' hw' => ?_) hS ?_
   ·have z0 := hw'.cell i0 hk1; have z1 := hw'.cell i1 hk1; have z2 := hw'.cell i2 hk1; have z3 := hw'.cell i3 hk1; have z4 := hw'.cell i4 hk1; have z5 := hw'.cell i5 hk1; clear hw'; go_simp
   (try simp only [Act.put, Wl.sA, Wl.sB, Wl.sC])
   refine Wl.mu 7 A.nb _ _ w4 hrun hS4 ?_
   (try simp only [Act.put, Wl.sA, Wl.sB, Wl.sC])
   refine wpL_done (by kernel_rfl) ?_ _
   clear hS hrun hS4 hcc i0 i1 i2 i3 i4 i5 hk1 hk2 v0 v1 v2 v3 v4 v5
   go_wp2
   exact ⟨⟨t + 1, by omega, by go_num, ld HG.out⟩, by simp [intOf]; omega⟩
  ·have e : t = n := by omega
   subst e
   have hq := HQ.out
   rw [List.take_of_length_le (by rw [← HL.out]; exact Nat.le_refl _)] at hq
   have HG := ld hq
   clear HQ hq
   go_wp2
   go_ret
   exact ⟨A, rfl, HG.out⟩
theorem An.ak {w0 w : World} {A : Aa} {l : List Gram.Node} {n : Nat} (h : An w0 w A l n) : ∃ N, Ak w0 w A N [] 0 ∧ stOf N [] = ⟨Ty.namesN l, []⟩ := by
 obtain ⟨NL, n1, n2, n3⟩ := h.nn
 exact ⟨NL, ⟨h.base, h.lo, h.ne, h.cc, h.rr, ⟨n, n1⟩, h.vv, n3, by simp⟩, by unfold stOf; rw [n2]⟩
theorem tcheck_any (w : World) (l : List Gram.Node) (a : Option Addr) (n c : Nat) (h : RepC w 0 [] (.l 44 6 (l.map nodeD)) (.slice a n c)) (hm : l.length ≤ 10000) (hf : ∀ x ∈ l, Ty.fineN x = true) :
  Calls Tryz.prog 10 #[.agg #[.slice a n c]] w fun e w' => e = .returned (.tuple #[.int .i64 (Ty.check l).1, .int .i64 (Ty.check l).2]) ∧ w.grownBy w' none := by
 have hL := (nLen h).1
 rw [List.length_map] at hL
 have hn : n ≤ 10000 := by omega
 have hg0 := ga w (.cells #[.slice a n c] 27 (0, 0)) none
 have hr0 := RepC.keptX hg0 (fun k e => by cases e) h
 have hna := tnewAsker_any _ l a n c hr0 hm hf
 obtain ⟨R, hR⟩ : ∃ R, R = Ty.check l := ⟨_, rfl⟩
 rw [← hR]
 have HR := ld hR
 have HL := ld hL
 have H := ld hr0
 have HF := ld hf
 have HG0 := ld (And.intro hg0 (heap_alloc_new w (.cells #[.slice a n c] 27 (0, 0))))
 obtain ⟨w0, hw0⟩ : ∃ W, W = w.alloc (.cells #[.slice a n c] 27 (0, 0)) := ⟨_, rfl⟩
 have HW0 := ld hw0
 rw [← hw0] at H HG0
 clear h hL hm hf hR hr0 hg0 hw0
 go_enter Tryz.func10, Tryz.ntmps10
 go_wp2_with (go_at_call 15; refine hna.mono ?_; rintro e w1 ⟨A, rfl, hA1⟩; refine Hid.out ?_)
 rw [← HW0.out] at hA1
 obtain ⟨N, hA, hst⟩ := hA1.ak
 have bp := (hA.base.block _ (gl HG0.out.2) (by simp)).trans HG0.out.2
 have p0 := cell_of_row _ _ 0 _ _ _ bp
 have HST : Hid (R = Ty.nodes (stOf N []) l) := ld (by rw [HR.out, hst]; rfl)
 have HAK := ld hA
 clear hna hA1 hA hst bp HR
 refine ld ?_
 go_wp2
 go_loopw [13] (fun iv wr => ∃ t : Nat, t ≤ n ∧ iv = .int .i64 (t : Int) ∧ Hid (∃ V cnt, Ak w0 wr A N V cnt ∧ cnt ≤ t * 30000 ∧ R = Ty.nodes (stOf N V) (l.drop t))) (fun i _ => n - (intOf i).toNat)
 case atStart => exact ⟨0, Nat.zero_le _, rfl, ld ⟨[], 0, HAK.out, Nat.zero_le _, HST.out⟩⟩
 case round =>
  obtain ⟨t, htn, rfl, HQ⟩ := hrel
  obtain ⟨V, cnt, q1, q2, q3⟩ := HQ.out
  by_cases hlt : t < n
  ·obtain ⟨x, hx⟩ : ∃ x, l[t]? = some x := ⟨_, List.getElem?_eq_getElem (by rw [← HL.out]; exact hlt)⟩
   obtain ⟨g, ua, un, uc, ta, tn, tc, la, ln, lc, ia, jn, ic, rfl, ⟨u0, u1, u2, u3, u4, u5⟩, r1, r2, r3, r4⟩ := nodeAt H.out hx
   obtain ⟨hs, hnf⟩ := nodeF_of (HF.out x (List.mem_of_getElem? hx)) r1 r2 r3 r4
   have hbs := q1.base
   have v0 := hbs.cell u0 (by simp)
   have v1 := hbs.cell u1 (by simp)
   have v2 := hbs.cell u2 (by simp)
   have v3 := hbs.cell u3 (by simp)
   have v4 := hbs.cell u4 (by simp)
   have v5 := hbs.cell u5 (by simp)
   have hga := ga wr (.cells #[.string ⟨x.name.toArray⟩, .slice ua un uc, .slice ta tn tc, .slice la ln lc, .slice ia jn ic, .int .i64 x.at_] 44 (0, 0)) none
   obtain ⟨L, hLL⟩ : ∃ L, L = [x.ins, x.outs, x.locals].flatten := ⟨_, rfl⟩
   have hck := tcheckNode_any (q1.kept hga) hnf (by omega) L hLL
   have hLb : L.length ≤ 30000 := by have := hnf.li; have := hnf.lo; have := hnf.ll; rw [hLL]; simp; omega
   have hnd := node_eq N V x L hLL
   rw [drop_at hx] at q3
   unfold Ty.nodes at q3
   simp only at q3
   obtain ⟨⟨⟨y1, y2⟩, st2⟩, hy⟩ : ∃ y, y = Ty.node (stOf N V) x := ⟨_, rfl⟩
   have hst2 : st2 = stOf N (leaV (entV V L) L) := by rw [← hy] at hnd; exact congrArg Prod.snd hnd
   rw [← hy] at q3 hck
   simp only at q3 hck
   have HX := ld (And.intro q2 (And.intro q3 (And.intro hst2 hLb)))
   have hfd := tfound_any y1 y2
   clear HQ q1 q2 q3 hx u0 u1 u2 u3 u4 u5 r1 r2 r3 r4 hs hnf hbs hga hLL hLb hnd hy hst2
   unfold Nv.cells at hck
   simp only at hck
   by_cases h0 : y2 = 0
   ·have hb : (y2 != 0) = false := by simp [h0]
    rw [hb] at hfd
    have H0 := ld h0
    clear h0 hb
    go_wp2_with (go_at_call 16; refine hck.mono ?_; rintro e w2 ⟨rfl, hA2, hg2⟩; refine Hid.out ?_)
    refine ld ?_
    go_wp2_with (go_at_call 17; refine (hfd _).mono ?_; rintro e w3 ⟨rfl, hg3⟩; refine Hid.out ?_)
    have hA3 := hA2.kept ((ga w2 _ none).trans hg3)
    obtain ⟨x1, x2, x3, x4⟩ := HX.out
    rw [if_neg (by simp [H0.out]), x3] at x2
    have HG := ld (And.intro hA3 (And.intro (show cnt + L.length ≤ (t + 1) * 30000 by omega) x2))
    clear hck hA2 hg2 hg3 hA3 x1 x2 x3 x4 v0 v1 v2 v3 v4 v5
    refine ld ?_
    go_wp2
    exact ⟨⟨t + 1, by omega, by go_num, ld ⟨_, _, HG.out.1, HG.out.2.1, HG.out.2.2⟩⟩, by simp [intOf]; omega⟩
   ·have hb : (y2 != 0) = true := by simp [h0]
    rw [hb] at hfd
    have H0 := ld h0
    clear h0 hb
    go_wp2_with (go_at_call 16; refine hck.mono ?_; rintro e w2 ⟨rfl, hA2, hg2⟩; refine Hid.out ?_)
    refine ld ?_
    go_wp2_with (go_at_call 17; refine (hfd _).mono ?_; rintro e w3 ⟨rfl, hg3⟩; refine Hid.out ?_)
    have hA3 := hA2.kept ((ga w2 _ none).trans hg3)
    have hfb := (hg3.block _ (by simp) (by simp)).trans (heap_alloc_new w2 (.cells #[.int .i64 y1, .int .i64 y2] 46 (0, 0)))
    have k0 := cell_of_row _ _ 0 _ _ _ hfb
    have k1 := cell_of_row _ _ 1 _ _ _ hfb
    obtain ⟨x1, x2, x3, x4⟩ := HX.out
    rw [if_pos H0.out] at x2
    have HG := ld (And.intro (HG0.out.1.trans hA3.base) x2)
    clear hck hA2 hg2 hg3 hA3 x1 x2 x3 x4 hfb v0 v1 v2 v3 v4 v5
    refine ld ?_
    go_wp2
    go_quiet (fail)
    go_wp2
    go_ret2
    rw [HG.out.2]
    exact ⟨rfl, gdrewN HG.out.1 _⟩
  ·have e : t = n := by omega
   subst e
   have hq := q3
   rw [List.drop_eq_nil_of_le (by rw [← HL.out]; exact Nat.le_refl _)] at hq
   have HG := ld (And.intro (HG0.out.1.trans q1.base) hq)
   clear HQ q1 q2 q3 hq
   go_wp2
   go_ret2
   rw [HG.out.2]
   exact ⟨rfl, HG.out.1⟩
namespace Ty
def okN (A : List Gram.B) (n : Gram.Node) : Prop :=
 A.contains n.name = false ∧ (twice (n.ins ++ n.outs ++ n.locals) []).2 = 0 ∧ (listN A ((n.ins ++ n.outs ++ n.locals).map Gram.Var.name) ((n.outs ++ n.locals).map Gram.Var.name) n.items []).1.2 = 0 ∧ (missing (listN A ((n.ins ++ n.outs ++ n.locals).map Gram.Var.name) ((n.outs ++ n.locals).map Gram.Var.name) n.items []).2 (n.outs ++ n.locals)).2 = 0
theorem nodesN_ok : ∀ (l : List Gram.Node) (A : List Gram.B), (nodesN l A).2 = 0 → ∀ (t : Nat) (n : Gram.Node), l[t]? = some n → okN (A ++ (l.take t).map Gram.Node.name) n
 | [], A, _, t, n, h => by simp at h
 | x :: r, A, h0, t, n, h => by
  simp only [nodesN] at h0
  split at h0
  ·simp at h0
  ·rename_i h1
   split at h0
   ·rename_i h2; exact absurd h0 h2
   ·rename_i h2
    split at h0
    ·rename_i h3; exact absurd h0 h3
    ·rename_i h3
     split at h0
     ·rename_i h4; exact absurd h0 h4
     ·rename_i h4
      split at h0
      ·rename_i h5; exact absurd h0 h5
      ·cases t with
       | zero =>
        simp at h
        subst h
        simp only [List.take_zero, List.map_nil, List.append_nil]
        exact ⟨by simpa using h1, by simpa using h2, by simpa using h3, by simpa using h4⟩
       | succ t =>
        have := nodesN_ok r _ h0 t n (by simpa using h)
        rw [List.take_succ_cons, List.map_cons]
        simpa using this
theorem twice_ok : ∀ (l : List Gram.Var) (S : List Gram.B), (twice l S).2 = 0 → ∀ (u : Nat) (v : Gram.Var), l[u]? = some v → (S ++ (l.take u).map Gram.Var.name).contains v.name = false
 | [], S, _, u, v, h => by simp at h
 | x :: r, S, h0, u, v, h => by
  simp only [twice] at h0
  by_cases h1 : S.contains x.name = true
  ·rw [if_pos h1] at h0; simp at h0
  ·rw [if_neg h1] at h0
   cases u with
   | zero => simp at h; subst h; simpa using h1
   | succ u =>
    have := twice_ok r _ h0 u v (by simpa using h)
    rw [List.take_succ_cons, List.map_cons]
    simpa using this
theorem missing_ok (D : List Gram.B) : ∀ (l : List Gram.Var), (missing D l).2 = 0 → ∀ (u : Nat) (v : Gram.Var), l[u]? = some v → D.contains v.name = true
 | [], _, u, v, h => by simp at h
 | x :: r, h0, u, v, h => by
  simp only [missing] at h0
  by_cases h1 : D.contains x.name = true
  ·rw [if_pos h1] at h0
   cases u with
   | zero => simp at h; subst h; exact h1
   | succ u => exact missing_ok D r h0 u v (by simpa using h)
  ·rw [if_neg h1] at h0; simp at h0
def fineK (n : Gram.Node) : Bool := n.locals.isEmpty && !n.outs.isEmpty && n.items.all (fun | .mk _ _ ss _ => ss.isEmpty) && decide ((defs n.items).length < 1000000) && decide (n.ins.length ≤ 10000) && decide (n.outs.length ≤ 10000)
end Ty
theorem run_exec_appendV {a : Act} {w w' : World} {oi : Oper} {v v2 v' : Value} (s x : Operand) (ho : oi.op = .call { callee := .builtin .append, args := #[s, x], argTypes := #[41, 41] }) (hs : a.eval s = v) (hx : a.eval x = v2) (hr : (Builtin.append_ #[41, 41] oi.type #[v, v2]).run Tryz.prog w = .ok v' w') : (execOp a.eval oi).run Tryz.prog w = .ok (.value v') w' := by
 unfold execOp
 simp only [ho, resolve, invoke, builtin, Sem.run_bind, Sem.run_pure, Result.andThen_ok, List.map_toArray, List.map_cons, List.map_nil, hs, hx, hr]
theorem slice_from (w : World) (g u nc un : Nat) (h1 : un ≤ u) (h2 : un < nc) : (Instr.sliceAt 23 (.slice (some ⟨g, 0, none⟩) u nc) (some (.int .i64 (un : Int))) none none).run Tryz.prog w = .ok (.slice (some ⟨g, un, none⟩) (u - un) (nc - un)) w := by
 obtain ⟨it, hit, hz, hsz, hby⟩ := infoP info_string
 have he : Tryz.prog.elem 23 = 9 := by kernel_rfl
 have hu : Tryz.prog.underlying 23 = some (.slice (Tryz.prog.elem 23)) := by rw [he]; exact Tryz.underlying23
 rw [run_sliceAt_slice _ _ _ _ _ _ hu, run_slice_l _ _ _ _ _ hu _ _ (by omega) (by omega), he]
 have hne : ¬ nc = un := by omega
 simp [sizeOf, typeInfo, hit, hsz, sliced, hne, Addr.add]
 omega
theorem cclock_none (w : World) (p vv : Value) (xa : Option Addr) (xc : Nat) : Calls Tryz.prog 23 #[p, .slice xa 0 xc, vv] w fun e w' => e = .returned (.tuple #[]) ∧ w' = w := by
 go_enter Tryz.func23, Tryz.ntmps23
 go_wp2
 go_loopw [6] (fun iv wr => iv = .int .i64 0 ∧ Hid (w = wr)) (fun _ _ => 0)
 case atStart => exact ⟨rfl, ld rfl⟩
 case round =>
  obtain ⟨rfl, HQ⟩ := hrel
  go_wp2
  go_end0
  exact ⟨rfl, HQ.out.symm⟩
theorem ccheckO_any (w0 : World) (l : List Gram.Node) (a : Option Addr) (L c : Nat) (hv : RepC w0 0 [] (.l 44 6 (l.map nodeD)) (.slice a L c)) (hL1 : L ≤ 1000000) (hf : ∀ n ∈ l, Ty.fineK n = true) (hok : (Ty.checkN l).2 = 0) :
  Calls Tryz.prog 14 #[.agg #[.slice a L c]] w0 fun e w' => e = .returned (.tuple #[.int .i64 0, .int .i64 0]) ∧ w0.grownBy w' none := by
 obtain ⟨hL, hLm⟩ := nodesLen hv
 unfold maxLen at hLm
 have HOK := ld (Ty.nodesN_ok l [] hok)
 have HL := ld hL
 have HV := ld hv
 have HF := ld hf
 clear hL hv hf hok
 go_enter Tryz.func14, Tryz.ntmps14
 go_wp2
 go_loopw [5] (fun iv wr => ∃ t : Nat, t ≤ L ∧ iv = .int .i64 (t : Int) ∧ Hid (Cb wr (w0.heap.size + 1) a L c (0, 0) ∧ wr.heap[w0.heap.size]? = some (.cells #[.slice a L c] 27 (0, 0)) ∧ w0.grownBy wr none)) (fun i _ => L - (intOf i).toNat)
 case atStart =>
  refine ⟨0, Nat.zero_le _, rfl, ld ⟨?_, ?_, ?_⟩⟩
  ·have := heap_alloc_new (w0.alloc (.cells #[.slice a L c] 27)) (.cells #[.slice a L c, .int .i64 0, .int .i64 0] 52)
   rw [World.size_alloc] at this
   exact this
  ·exact ((ga (w0.alloc (.cells #[.slice a L c] 27)) _ none).block w0.heap.size (by simp) (by simp)).trans (heap_alloc_new w0 _)
  ·exact (ga w0 _ none).trans (ga _ _ none)
 case round =>
  obtain ⟨t, ht, rfl, HQ⟩ := hrel
  obtain ⟨q1, q2, q3⟩ := HQ.out
  have z1 : wr.cell? ⟨w0.heap.size + 1, 1, none⟩ = some (.int .i64 0) := cell_of_row wr _ 1 _ _ _ q1
  have z2 : wr.cell? ⟨w0.heap.size + 1, 2, none⟩ = some (.int .i64 0) := cell_of_row wr _ 2 _ _ _ q1
  have z0 := cell_of_row wr _ 0 _ _ _ q2
  by_cases hlt : t < L
  ·obtain ⟨n, hn⟩ : ∃ n, l[t]? = some n := ⟨_, List.getElem?_eq_getElem (by rw [← HL.out]; exact hlt)⟩
   obtain ⟨g, ua, un, uc, ta, tn, tc, la, ln, lc, ia, jn, ic, rfl, ⟨u0, u1, u2, u3, u4, u5⟩, k1, k2, k3, k4⟩ := nodeAt HV.out hn
   have hfn := HF.out n (List.mem_of_getElem? hn)
   have hon := HOK.out t n hn
   rw [List.nil_append] at hon
   have v0 := q3.cell u0 (by simp)
   have v1 := q3.cell u1 (by simp)
   have v2 := q3.cell u2 (by simp)
   have v3 := q3.cell u3 (by simp)
   have v4 := q3.cell u4 (by simp)
   have v5 := q3.cell u5 (by simp)
   cases n with
   | mk nnm ins outs locs items nat =>
   unfold Ty.fineK at hfn
   simp only [Bool.and_eq_true, decide_eq_true_eq, List.isEmpty_iff, List.all_eq_true, Bool.not_eq_true', List.isEmpty_eq_false_iff] at hfn
   obtain ⟨⟨⟨⟨⟨f1, f2⟩, f3⟩, f4⟩, f5⟩, f6⟩ := hfn
   subst f1
   obtain ⟨o1, o2, o3, o4⟩ := hon
   simp only at v0 v1 v2 v3 v4 v5 k1 k2 k3 k4 o1 o2 o3 o4
   have hun := (nLen k1).1
   have htn := (nLen k2).1
   rw [List.length_map] at hun htn
   have hln : ln = 0 := by have := (nLen k3).1; simpa using this
   subst hln
   have hno : ∀ (t : Nat) ns e ss at_, items[t]? = some (Gram.Item.mk ns e ss at_) → ss = [] := fun t ns e ss at_ h => by simpa using f3 _ (List.mem_of_getElem? h)
   obtain ⟨W1, hW1⟩ : ∃ W1, W1 = wr.alloc (.cells #[.string ⟨nnm.toArray⟩, .slice ua un uc, .slice ta tn tc, .slice la 0 lc, .slice ia jn ic, .int .i64 nat] 44 (0, 0)) := ⟨_, rfl⟩
   have hga : wr.grownBy W1 none := by rw [hW1]; exact ga wr _ none
   have hbx : W1.heap[wr.heap.size]? = some (.cells #[.string ⟨nnm.toArray⟩, .slice ua un uc, .slice ta tn tc, .slice la 0 lc, .slice ia jn ic, .int .i64 nat] 44 (0, 0)) := by rw [hW1]; exact heap_alloc_new wr _
   have hcn := cnode_any w0 W1 l _ L c HV.out (q3.trans hga) nnm t (by omega)
   rw [o1] at hcn
   have z0' := hga.cell z0 (by simp)
   have p0 := cell_of_row _ _ 0 _ _ _ hbx
   have hcb := q1.kept hga
   have hbl := gl hcb
   have HW1 := ld hW1
   have HK := ld (And.intro k1 (And.intro k2 (And.intro k3 k4)))
   have HO := ld (And.intro o2 (And.intro o3 (And.intro o4 (And.intro hno f4))))
   have HX := ld (And.intro hcb (And.intro hbx (And.intro (q3.trans hga) ((hga.block _ (gl q2) (by simp)).trans q2))))
   have HU := ld (And.intro hun (And.intro htn (And.intro f2 (And.intro f5 f6))))
   have hub : un + tn ≤ 1000000 := by omega
   have htp : 0 < tn := by rw [htn]; exact List.length_pos_iff.2 f2
   clear HQ hn u0 u1 u2 u3 u4 u5 k1 k2 k3 k4 o1 o2 o3 o4 q1 q2 q3 f2 f3 f4 f5 f6 hno hW1 hga hbx hcb hun htn
   rw [HW1.out] at hcn p0 z0'
   go_wp2_with (go_at_call 19; refine hcn.mono ?_; rintro e w4 ⟨r, rfl, hr, hg4⟩; have hrc : decide (r ≥ 0) = false := hr.symm; rw [← HW1.out] at hg4; refine Hid.out ?_)
   have hb4 := (hg4.block _ (gl HX.out.2.1) (by simp)).trans HX.out.2.1
   have hc4 := HX.out.1.kept hg4
   have b1 := cell_of_row w4 _ 1 _ _ _ hb4
   have b2 := cell_of_row w4 _ 2 _ _ _ hb4
   have b3 := cell_of_row w4 _ 3 _ _ _ hb4
   have hg04 := HX.out.2.2.1.trans hg4
   have H4 := ld (And.intro hb4 (And.intro hc4 (And.intro hg04 ((hg4.block _ (gl HX.out.2.2.2) (by simp)).trans HX.out.2.2.2))))
   clear hb4 hc4 hg04 hcn v0 v1 v2 v3 v4 v5 hg4 hr
   refine ld ?_
   go_upto_region 8 with fail
   refine wp_region_L (S := fun V => w4.grownBy V none) (Z := []) (by kernel_rfl) ?_
   have hS := gdrew (World.grownBy.refl w4 none)
   refine Wl.t1 0 45 (.pointer (some ⟨wr.heap.size, 1, none⟩)) hS ?_
   (try simp only [Act.put, Wl.sA, Wl.sB, Wl.sC])
   refine Wl.t2 1 46 (.slice ua un uc) (fun w' hw' => ?_) hS ?_
   ·have z0 := hw'.cell b1 (by simp); clear hw'; go_simp
   (try simp only [Act.put, Wl.sA, Wl.sB, Wl.sC])
   refine Wl.t1 3 48 (.pointer (some ⟨wr.heap.size, 2, none⟩)) hS ?_
   (try simp only [Act.put, Wl.sA, Wl.sB, Wl.sC])
   refine Wl.t2 4 49 (.slice ta tn tc) (fun w' hw' => ?_) hS ?_
   ·have z0 := hw'.cell b2 (by simp); clear hw'; go_simp
   (try simp only [Act.put, Wl.sA, Wl.sB, Wl.sC])
   refine Wl.t1 6 51 (.pointer (some ⟨wr.heap.size, 3, none⟩)) hS ?_
   (try simp only [Act.put, Wl.sA, Wl.sB, Wl.sC])
   refine Wl.t2 7 52 (.slice la 0 lc) (fun w' hw' => ?_) hS ?_
   ·have z0 := hw'.cell b3 (by simp); clear hw'; go_simp
   (try simp only [Act.put, Wl.sA, Wl.sB, Wl.sC])
   have e1 := RepC.keptX (H4.out.2.2.1.trans hS) (fun k e => by cases e) HK.out.1
   have e2 := RepC.keptX (H4.out.2.2.1.trans hS) (fun k e => by cases e) HK.out.2.1
   have e3 := RepC.keptX (H4.out.2.2.1.trans hS) (fun k e => by cases e) HK.out.2.2.1
   obtain ⟨w4d, hwd⟩ : ∃ W, W = w4.drew := ⟨_, rfl⟩
   rw [← hwd] at e1 e2 e3 hS ⊢
   obtain ⟨x1, V1, y1, r1, a1, c1, g1⟩ := vapp 41 (World.grownBy.refl w4d none) (v := .slice none 0 0) (ps := []) (xs := []) (World.ownsRow_nil _ _ _ _) RepRow.nil e1 (by have := HU.out.1; have := HU.out.2.2.2; simp; omega)
   obtain ⟨x2, V2, y2, r2, a2, c2, g2⟩ := vapp 41 g1 a1 c1 e2 (by have := HU.out.2.2.2; simp; omega)
   obtain ⟨x3, V3, y3, r3, a3, c3, g3⟩ := vapp 41 g2 a2 c2 e3 (by have := HU.out.2.2.2; simp; omega)
   have hend := vend g3 a3 c3
   rw [List.nil_append] at hend
   obtain ⟨xn, hxn⟩ : ∃ xn, xn = ([] ++ ins ++ outs ++ ([] : List Gram.Var)).length := ⟨_, rfl⟩
   rw [← hxn] at a3
   obtain ⟨xa, xc, rfl⟩ := rowFormR a3
   have hS1 := hS.trans g1
   have hS2 := hS.trans g2
   have hS3 := hS.trans g3
   refine Wl.wpL_val (i := 2) (d := 47) (v := x1) (w' := V1) (by kernel_rfl) rfl (by kernel_rfl) (by kernel_rfl) (run_exec_appendV _ _ rfl rfl rfl r1) hS1 ?_
   (try simp only [Act.put, Wl.sA, Wl.sB, Wl.sC])
   refine Wl.wpL_val (i := 5) (d := 50) (v := x2) (w' := V2) (by kernel_rfl) rfl (by kernel_rfl) (by kernel_rfl) (run_exec_appendV _ _ rfl rfl rfl r2) hS2 ?_
   (try simp only [Act.put, Wl.sA, Wl.sB, Wl.sC])
   refine Wl.wpL_val (i := 8) (d := 53) (v := .slice xa xn xc) (w' := V3) (by kernel_rfl) rfl (by kernel_rfl) (by kernel_rfl) (run_exec_appendV _ _ rfl rfl rfl r3) hS3 ?_
   (try simp only [Act.put, Wl.sA, Wl.sB, Wl.sC])
   refine Wl.t1 9 7 (.slice xa xn xc) hS3 ?_
   (try simp only [Act.put, Wl.sA, Wl.sB, Wl.sC])
   refine wpL_done (by kernel_rfl) ?_ _
   rw [List.append_nil] at hend
   rw [List.append_nil, List.nil_append] at hxn
   have hg03 := H4.out.2.2.1.trans hS3
   have hb3 := (hS3.block _ (gl H4.out.1) (by simp)).trans H4.out.1
   have hc3 := H4.out.2.1.kept hS3
   have H3 := ld (And.intro hend (And.intro hb3 (And.intro hc3 (And.intro hg03 ((hS3.block _ (gl H4.out.2.2.2) (by simp)).trans H4.out.2.2.2)))))
   have hxb : xn ≤ 1000000 := by rw [hxn, List.length_append]; have := HU.out.1; have := HU.out.2.1; omega
   have HXN := ld hxn
   have e1c : V3.cell? ⟨w0.heap.size + 1, 1, none⟩ = some (.int .i64 0) := cell_of_row V3 _ 1 _ _ _ hc3
   clear hend hg03 hb3 hc3 hS hS1 hS2 hS3 g1 g2 g3 a1 a2 a3 c1 c2 c3 r1 r2 r3 e1 e2 e3 hxn hwd b1 b2 b3
   go_wp2
   obtain ⟨wo, rfl⟩ : ∃ wo, wo = wr := ⟨_, rfl⟩
   go_loopw [8, 9] (fun lv jv wq => ∃ (u : Nat) (na : Option Addr) (nc : Nat), u ≤ xn ∧ lv = .slice na u nc ∧ jv = .int .i64 (u : Int) ∧ Hid (V3.grownBy wq none ∧ wq.ownsRow V3.heap.size 9 1 (.slice na u nc) u ((((ins ++ outs).take u).map Gram.Var.name).map strR))) (fun _ j _ => xn - (intOf j).toNat)
   case atStart => exact ⟨0, none, 0, Nat.zero_le _, rfl, rfl, ld ⟨World.grownBy.refl _ _, by simpa using World.ownsRow_nil _ _ _ _⟩⟩
   case round =>
    obtain ⟨u, na, nc, hu, rfl, rfl, HP⟩ := hrel
    obtain ⟨s1, s2⟩ := HP.out
    by_cases hlu : u < xn
    ·obtain ⟨v, hvv⟩ : ∃ v, (ins ++ outs)[u]? = some v := ⟨_, List.getElem?_eq_getElem (by rw [← HXN.out]; exact hlu)⟩
     obtain ⟨gx, ea, en, ec, rfl, i0, i1, i2, i3, i4, hed⟩ := varAt H3.out.1 hvv
     have y0 := s1.cell i0 (by simp)
     have hnd := Ty.twice_ok _ [] HO.out.1 u v (by simpa using hvv)
     rw [List.nil_append, List.append_nil] at hnd
     have hlm : (((ins ++ outs).take u).map Gram.Var.name).length = u := by rw [List.length_map, List.length_take]; have := HXN.out; omega
     have hh := has_any wr na u nc _ v.name hlm.symm (by omega) (StrL.own s2)
     rw [hnd] at hh
     have ga := ga wr (.cells #[.string ⟨v.name.toArray⟩] 9 (0, 0)) none
     have on := owns_new (w := wr) (B := wr.heap.size) 9 1 1 [.string ⟨v.name.toArray⟩] (Nat.le_refl _) rfl (by unfold maxLen; omega)
     obtain ⟨v6, w6, r6, o6, g6⟩ := run_appendR (wr.alloc (.cells #[.string ⟨v.name.toArray⟩] 9)) 0 V3.heap.size wr.heap.size (.slice na u nc) (.slice (some ⟨wr.heap.size, 0, none⟩) 1 1) u 1 _ [.string ⟨v.name.toArray⟩] (s2.kept ga (Classical.em _)) on (by intro u hu; simp at hu; subst hu; rfl) (by have := s1.size; simp; omega) (by omega)
     have r7 : ∀ ty, (Builtin.append_ #[23, 23] ty #[.slice na u nc, .slice (some ⟨wr.heap.size, 0, none⟩) 1 1]).run Tryz.prog (wr.alloc (.cells #[.string ⟨v.name.toArray⟩] 9)) = .ok v6 w6 := fun _ => r6
     obtain ⟨fa, fc, rfl⟩ := rowFormR o6
     have hnx : (((ins ++ outs).take (u + 1)).map Gram.Var.name).map strR = (((ins ++ outs).take u).map Gram.Var.name).map strR ++ [.string ⟨v.name.toArray⟩] := by rw [List.take_add_one, hvv]; simp [strR]
     rw [← hnx] at o6
     have HG := ld (And.intro ((s1.trans ga).andThen g6 (fun j e => .inl (s2.lt j e).1)) o6)
     have hvl := gl (show V3.heap[wo.heap.size]? = _ from H3.out.2.1)
     clear HP s1 s2 hvv i0 i1 i2 i3 i4 hed hnd ga on r6 o6 g6 hnx
     go_wp2_with (first | (go_at_call 21; refine hh.mono ?_; rintro e1 w2 ⟨rfl, hw2⟩; obtain rfl := hw2.symm) | (at_builtin; refine Lib.wpList_append_run _ rfl _ _ _ _ rfl _ _ rfl rfl _ _ (r7 _) ?_))
     exact ⟨⟨u + 1, fa, fc, by omega, rfl, by go_num, ld HG.out⟩, by simp [intOf]; omega⟩
    ·have e : u = xn := by omega
     subst e
     obtain ⟨gv, rfl, hgv, hnc, hncm⟩ : ∃ gv, na = some ⟨gv, 0, none⟩ ∧ V3.heap.size ≤ gv ∧ u ≤ nc ∧ nc ≤ maxLen := by
      rcases s2.2 with ⟨_, h0⟩ | ⟨g9, cap, cur, h1, h2, h3, h4, h5, h6⟩
      ·exfalso
       have := HXN.out
       rw [List.length_append] at this
       have := HU.out.2.1
       omega
      ·cases h1; exact ⟨g9, rfl, h2, h4, h5⟩
     unfold maxLen at hncm
     have hb9 := (s1.block _ (gl H3.out.2.1) (by simp)).trans H3.out.2.1
     have hc9 := H3.out.2.2.1.kept s1
     have e1r : wr.cell? ⟨w0.heap.size + 1, 1, none⟩ = some (.int .i64 0) := cell_of_row wr _ 1 _ _ _ hc9
     have b1 := cell_of_row wr _ 1 _ _ _ hb9
     have b3 := cell_of_row wr _ 3 _ _ _ hb9
     have b4 := cell_of_row wr _ 4 _ _ _ hb9
     have hau : (ins ++ outs).take u = ins ++ outs := List.take_of_length_le (by rw [← HXN.out]; exact Nat.le_refl _)
     have s3 := s2
     rw [hau] at s3
     have hux : un ≤ u := by have := HXN.out; rw [List.length_append] at this; have := HU.out.1; omega
     have hux2 : u - un = tn := by have := HXN.out; rw [List.length_append] at this; have := HU.out.1; have := HU.out.2.1; omega
     have hsv := StrL.own s3
     have hsm : StrL wr (some ⟨gv, un, none⟩) (outs.map Gram.Var.name) := fun t s hs => by
      obtain ⟨g2, off, h1, h2⟩ := hsv (un + t) s (by rw [List.map_append, List.getElem?_append_right (by rw [List.length_map, HU.out.1]; omega), List.length_map, ← HU.out.1, Nat.add_sub_cancel_left]; exact hs)
      cases h1
      exact ⟨gv, un, rfl, by rw [Nat.zero_add] at h2; exact h2⟩
     have hgr := H3.out.2.2.2.1.trans s1
     have hok3 := HO.out.2.1
     rw [List.append_nil, List.append_nil] at hok3
     have hli := clistO_any (w0 := w0) (l := l) (vars := (ins ++ outs).map Gram.Var.name) (may := outs.map Gram.Var.name) (va := some ⟨gv, 0, none⟩) (vn := u) (vc := nc) (ma := some ⟨gv, un, none⟩) (mn := u - un) (mc := nc - un) (k := t) (b := w0.heap.size + 1) HV.out (by rw [List.length_map]; exact HXN.out) hxb (by rw [hux2, List.length_map]; exact HU.out.2.1) (by omega) (by omega) items ia jn ic HK.out.2.2.2 HO.out.2.2.2.1 HO.out.2.2.2.2 hok3 wr hgr hc9 hsv hsm
     have HS := ld (And.intro s1 (And.intro hb9 (And.intro hc9 hgr)))
     have hsl := gl hb9
     have hslc := slice_from wr gv u nc un hux (by omega)
     clear HP s1 s2 s3 hb9 hc9 hgr hok3 hsv hsm hau hgv hux2 hub htp hnc
     go_wp2_with (go_at_call 22; refine hli.mono ?_; rintro e w9 ⟨da, dn, dc, rfl, hdn0, ho9, hg9⟩; have HDN := ld hdn0; clear hdn0; refine Hid.out ?_)
     have hdn := HDN.out
     have hS9 := HS.out.1.trans hg9
     have hb9 := (hg9.block _ (gl HS.out.2.1) (by simp)).trans HS.out.2.1
     have hc9 := HS.out.2.2.1.kept hg9
     have hdon : ∀ (q : Nat) (v : Gram.Var), un ≤ q → (ins ++ outs)[q]? = some v → (Ty.defs items).contains v.name = true := fun q v hq hv => by
      have h4 := HO.out.2.2.1
      rw [(Ty.listN_ok _ _ _ items [] HO.out.2.1).1, List.nil_append, List.append_nil] at h4
      refine Ty.missing_ok _ outs h4 (q - un) v ?_
      rw [List.getElem?_append_right (by rw [← HU.out.1]; exact hq), ← HU.out.1] at hv
      exact hv
     have H9 := ld (And.intro hdn (And.intro (StrL.own ho9) (And.intro hdon (And.intro hS9 (And.intro hb9 hc9)))))
     have hdb : dn ≤ 1000000 := by have := HO.out.2.2.2.2; omega
     clear HDN
     have b3' := hg9.cell b3 (by simp)
     have b4' := hg9.cell b4 (by simp)
     have b1' := hg9.cell b1 (by simp)
     have e1' := hg9.cell e1r (by simp)
     clear hli hslc b1 b3 b4 e1r hdn ho9 hg9 hS9 hb9 hc9 hdon
     refine ld ?_
     go_wp2
     obtain ⟨wi, rfl⟩ : ∃ wi, wi = wr := ⟨_, rfl⟩
     go_loopw [12] (fun kv wq => ∃ q : Nat, un ≤ q ∧ q ≤ u ∧ kv = .int .i64 (q : Int) ∧ Hid (w9 = wq)) (fun j _ => u - (intOf j).toNat)
     case atStart => exact ⟨un, Nat.le_refl _, hux, rfl, ld rfl⟩
     case round =>
      obtain ⟨q, hq1, hq2, rfl, HW9⟩ := hrel
      obtain rfl := HW9.out
      by_cases hlq : q < u
      ·obtain ⟨v, hvv⟩ : ∃ v, (ins ++ outs)[q]? = some v := ⟨_, List.getElem?_eq_getElem (by rw [← HXN.out]; exact hlq)⟩
       obtain ⟨gx, ea, en, ec, rfl, i0, i1, i2, i3, i4, hed⟩ := varAt H3.out.1 hvv
       have y0 := H9.out.2.2.2.1.cell i0 (by simp)
       have hh := has_any w9 da dn dc _ v.name H9.out.1 hdb H9.out.2.1
       rw [H9.out.2.2.1 q v hq1 hvv] at hh
       clear hvv i0 i1 i2 i3 i4 hed
       go_wp2_with (go_at_call 21; refine hh.mono ?_; rintro e1 w2 ⟨rfl, hw2⟩; obtain rfl := hw2.symm)
       exact ⟨⟨q + 1, by omega, by omega, by go_num, ld (by first | rfl | trivial)⟩, by simp [intOf]; omega⟩
      ·have e : q = u := by omega
       subst e
       have hcl := cclock_none w9 (.pointer (some ⟨w0.heap.size + 1, 0, none⟩)) (.slice (some ⟨gv, 0, none⟩) q nc) la lc
       have hcs := cstates_any w0 w9 items ia jn ic HK.out.2.2.2 HO.out.2.2.2.1 (H3.out.2.2.2.1.trans H9.out.2.2.2.1) (w0.heap.size + 1) (.slice (some ⟨gv, 0, none⟩) q nc)
       go_wp2_with (first | (go_at_call 23; refine hcl.mono ?_; rintro e1 w2 ⟨rfl, hw2⟩; obtain rfl := hw2.symm) | (go_at_call 24; refine hcs.mono ?_; rintro e1 w2 ⟨rfl, hw2⟩; obtain rfl := hw2.symm))
       exact ⟨⟨t + 1, by omega, by go_num, ld ⟨H9.out.2.2.2.2.2, (H9.out.2.2.2.1.block _ (gl H3.out.2.2.2.2) (by simp)).trans H3.out.2.2.2.2, H3.out.2.2.2.1.trans H9.out.2.2.2.1⟩⟩, by simp [intOf]; omega⟩
  ·have e : t = L := by omega
   subst e
   have HQ2 := ld q3
   clear HQ q1 q2 q3
   go_wp2
   go_quiet (fail)
   go_wp2
   go_ret2
   exact ⟨rfl, gdrewN HQ2.out _⟩
end Go.Proofs.YtbbamgjdnibldaaGreat
namespace Go.Proofs.YtbbamgjdnibldaaGreat.Ty
open Go.RowKit
def noAV (T : List Lex.Tk) : Bool := T.all fun t => t.text != [97, 117, 116, 111, 109, 97, 116, 111, 110] && t.text != [118, 97, 114]
def noAVs (s : List UInt8) : Bool := match Lex.tokens s with
 | .ok T => noAV T
 | _ => true
theorem noAV_is {T : List Lex.Tk} (h : noAV T = true) (x : Gram.Rf.St) : Gram.Rf.is T [97, 117, 116, 111, 109, 97, 116, 111, 110] x = false ∧ Gram.Rf.is T [118, 97, 114] x = false := by
 unfold noAV at h
 rw [List.all_eq_true] at h
 have hd : (Gram.tk T x.i).text ≠ [97, 117, 116, 111, 109, 97, 116, 111, 110] ∧ (Gram.tk T x.i).text ≠ [118, 97, 114] := by
  unfold Gram.tk
  rw [List.getD_eq_getElem?_getD]
  cases hx : T[x.i]? with
  | none => exact ⟨by simp [Gram.endTk], by simp [Gram.endTk]⟩
  | some t =>
   have := h t (List.mem_of_getElem? hx)
   simp only [Bool.and_eq_true, bne_iff_ne, ne_eq] at this
   exact ⟨this.1, this.2⟩
 unfold Gram.Rf.is
 refine ⟨?_, ?_⟩
 ·have : ((Gram.tk T x.i).text == [97, 117, 116, 111, 109, 97, 116, 111, 110]) = false := by simpa using hd.1
  rw [this, Bool.and_false]
 ·have : ((Gram.tk T x.i).text == [118, 97, 114]) = false := by simpa using hd.2
  rw [this, Bool.and_false]
theorem noAVs_is {s : List UInt8} (h : noAVs s = true) (T : List Lex.Tk) (hT : Lex.tokens s = .ok T) : (∀ x, Gram.Rf.is T [97, 117, 116, 111, 109, 97, 116, 111, 110] x = false) ∧ ∀ x, Gram.Rf.is T [118, 97, 114] x = false := by
 unfold noAVs at h
 rw [hT] at h
 exact ⟨fun x => (noAV_is h x).1, fun x => (noAV_is h x).2⟩
def okT (s : List UInt8) (e : Int) : Bool :=
 match Gram.Rf.parse s with
 | .ok l => noAVs s && decide (s.length ≤ 8000) && decide (l.length ≤ 10000) && l.all fineN && l.all fineK && (checkN l).2 == 0 && (check l).2 == e
 | _ => false
def okP (s : List UInt8) (a e : Int) : Bool :=
 okT s e && match Gram.Rf.parse s with
 | .ok l => (check l).1 == a
 | _ => false
theorem okT_split {s : List UInt8} {e : Int} (h : okT s e = true) : ∃ l, Gram.Rf.parse s = .ok l ∧ noAVs s = true ∧ s.length ≤ 8000 ∧ l.length ≤ 10000 ∧ (∀ x ∈ l, fineN x = true) ∧ (∀ x ∈ l, fineK x = true) ∧ (checkN l).2 = 0 ∧ (check l).2 = e := by
 unfold okT at h
 cases hp : Gram.Rf.parse s with
 | ok l =>
  rw [hp] at h
  simp only [Bool.and_eq_true, decide_eq_true_eq, List.all_eq_true, beq_iff_eq] at h
  exact ⟨l, rfl, h.1.1.1.1.1.1, h.1.1.1.1.1.2, h.1.1.1.1.2, h.1.1.1.2, h.1.1.2, h.1.2, h.2⟩
 | bad a e => rw [hp] at h; cases h
 | fuel => rw [hp] at h; cases h
end Go.Proofs.YtbbamgjdnibldaaGreat.Ty
