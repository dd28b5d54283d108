/- My texts RqK RqL RqM, joined. -/
import Derived.Test.YtonafedbehnneaaGreatMhL
import Derived.Test.YtonafedbehnneaaGreatMhF
import Derived.Maps.OwnIn
import Derived.Test.YtonafedbehnneaaGreatMhK
set_option linter.unusedVariables false
set_option linter.unusedSimpArgs false
set_option linter.unnecessarySimpa false
set_option linter.unusedSectionVars false
set_option maxHeartbeats 12800000
set_option maxRecDepth 20000
namespace Go.Proofs.YtonafedbehnneaaGreat
open Go.RowKit Go.Maps Go.WideMaps
theorem rowForm {w : World} {B n : Nat} {e : TypeId} {sz : Nat} {v : Value} {xs : List Value} (h : w.ownsRow B e sz v n xs) : ∃ a c, v = .slice a n c := by
 rcases h.2 with ⟨rfl, rfl⟩ | ⟨g, cap, cur, rfl, _⟩
 ·exact ⟨_, _, rfl⟩
 ·exact ⟨_, _, rfl⟩
theorem str_one (l : List (List UInt8)) : ∀ u ∈ l.map strV, u.oneCell' = true := by
 intro u hu
 obtain ⟨s, _, rfl⟩ := List.mem_map.1 hu
 rfl
theorem run_append2 (w : World) (ty : TypeId) (B B2 : Nat) (v v2 : Value) (n m : Nat) (xs ys : List Value) (h : w.ownsRow B 9 1 v n xs) (h2 : w.ownsRow B2 9 1 v2 m ys) (hys : ∀ u ∈ ys, u.oneCell' = true) (hB : B ≤ w.heap.size) (hm : n + m ≤ 1000000) :
  ∃ v' w', (Builtin.append_ #[32, 32] ty #[v, v2]).run Tryz.prog w = .ok v' w' ∧ w'.ownsRow B 9 1 v' (n + m) (xs ++ ys) ∧ w.grownBy w' v.ownBlock := by
 obtain ⟨it, hit, hz, hsz, hby⟩ := infoP info_string
 have hm2 : n + m ≤ maxLen := by unfold maxLen; omega
 rcases h2.2 with ⟨rfl, h0⟩ | ⟨g, cap, cur, rfl, hb2, hh2, hc2⟩
 ·subst h0
  have hy : ys = [] := List.eq_nil_of_length_eq_zero (by simpa using h2.1)
  subst hy
  simp only [Nat.add_zero, List.append_nil]
  rcases h.2 with ⟨rfl, h0⟩ | ⟨g, cap, cur, rfl, hb1, hh1, hnc, hc1⟩
  ·refine ⟨_, w, ?_, h, World.grownBy.refl _ _⟩
   simp [Builtin.append_, run_underlying Tryz.underlying32, sizeOf, typeInfo, hit, Builtin.lenOf, Builtin.firstCells, loadCells, loadCellsFrom]
  ·refine ⟨_, w, ?_, h, World.grownBy.refl _ _⟩
   simp [Builtin.append_, run_underlying Tryz.underlying32, sizeOf, typeInfo, hit, Builtin.lenOf, Builtin.firstCells, loadCells, loadCellsFrom, hnc, storeCells]
 ·obtain ⟨v', w', q1, q2, q3, _⟩ := run_append_own (P := Tryz.prog) w B 32 ty 9 it _ 1 16 Tryz.underlying32 hit hz hsz hby rfl (by decide) v n xs h ⟨g, 0, none⟩ m cap ys h2.1 (h2.cells (g := g) rfl) hys hm2 (by omega) hB
  exact ⟨v', w', q1, q2, q3⟩
theorem wpList_append2 {w : World} {ops : Array Oper} {rest : List Oper} {o : Oper} {a : Act} {Q : Exit → Act → World → Prop} (hgd : o.guard = none) (s x : Operand)
  (ho : o.op = .call { callee := .builtin .append, args := #[s, x], argTypes := #[32, 32] }) (B B2 : Nat) (v v2 : Value) (n m : Nat) (xs ys : List Value) (hs : a.eval s = v) (hx : a.eval x = v2) (h : w.ownsRow B 9 1 v n xs) (h2 : w.ownsRow B2 9 1 v2 m ys) (hys : ∀ u ∈ ys, u.oneCell' = true) (hB : B ≤ w.heap.size) (hm : n + m ≤ 1000000)
  (hk : ∀ v' w', w'.ownsRow B 9 1 v' (n + m) (xs ++ ys) → w.grownBy w' v.ownBlock → wpList Tryz.prog ops Q rest (a.put o.dst v') w') : wpList Tryz.prog ops Q (o :: rest) a w := by
 refine wpList_plain hgd fun K hK => ?_
 obtain ⟨v', w', hr, q2, q3⟩ := run_append2 w o.type B B2 v v2 n m xs ys h h2 hys hB hm
 unfold Oper.wp execOp
 simp only [ho, resolve, invoke, builtin, Sem.run_bind, Sem.run_pure, Result.andThen_ok, List.map_toArray, List.map_cons, List.map_nil, hs, hx, hr]
 exact hK _ _ (hk v' w' q2 q3)
theorem rUL_succ (p : Int → Bool) {ks : List Gram.Exp} {t : Nat} {k : Gram.Exp} (h : ks[t]? = some k) : Gram.Rf.rUL p (ks.take (t + 1)) = Gram.Rf.rUL p (ks.take t) ++ Gram.Rf.rU p k := by
 have app : ∀ a b, Gram.Rf.rUL p (a ++ b) = Gram.Rf.rUL p a ++ Gram.Rf.rUL p b := by
  intro a
  induction a with
  | nil => intro b; simp [Gram.Rf.rUL]
  | cons x r ih => intro b; simp [Gram.Rf.rUL, ih b]
 rw [List.take_add_one, h, app]
 simp [Gram.Rf.rUL]
theorem szL_take : ∀ (ks : List Gram.Exp) (t : Nat), Gram.Rf.szL (ks.take t) ≤ Gram.Rf.szL ks
 | [], t => by simp [Gram.Rf.szL]
 | x :: r, 0 => by simp [Gram.Rf.szL]
 | x :: r, t + 1 => by
  have := szL_take r t
  simp only [List.take_succ_cons, Gram.Rf.szL]
  omega
theorem szL_at : ∀ {ks : List Gram.Exp} {t : Nat} {k : Gram.Exp}, ks[t]? = some k → Gram.Rf.sz k ≤ Gram.Rf.szL ks
 | [], t, k, h => by simp at h
 | x :: r, 0, k, h => by cases h; simp [Gram.Rf.szL]
 | x :: r, t + 1, k, h => by
  have := szL_at (ks := r) (t := t) (k := k) (by simpa using h)
  simp only [Gram.Rf.szL]
  omega
theorem rUses_any (w0 : World) : ∀ (m : Nat) (x : Gram.Exp), SizeOf.sizeOf x ≤ m → ∀ (w : World) (a : Option Addr) (L c : Nat), w0.grownBy w none → KidsX w0 0 [] x.kids (.slice a L c) → Gram.Rf.sz x ≤ 100000 →
  Calls Tryz.prog 14 #[.agg (expCells x (.slice a L c)).toArray] w fun e w' => ∃ v, e = .returned v ∧ w'.ownsRow w.heap.size 9 1 v (Gram.Rf.rU Nam.uses x).length ((Gram.Rf.rU Nam.uses x).map strV) ∧ w.grownBy w' none := by
 intro m
 induction m with
 | zero => intro x hx; cases x; simp at hx
 | succ m ih =>
  intro x hx w a L c hg hk hzz
  obtain ⟨f, s, nm, tk, tl, nn, mm, ks, at_⟩ := x
  simp only [Gram.Exp.kids] at hk
  obtain ⟨hL, hLm⟩ := kidsLen hk
  unfold maxLen at hLm
  simp only [expCells]
  obtain ⟨it, hit, hz, hsz, hby⟩ := infoP info_string
  obtain ⟨N0, hN0⟩ : ∃ N0, N0 = (if Nam.uses f then [nm] else []) := ⟨_, rfl⟩
  obtain ⟨RU, hRU⟩ : ∃ RU, RU = Gram.Rf.rU Nam.uses (Gram.Exp.mk f s nm tk tl nn mm ks at_) := ⟨_, rfl⟩
  rw [← hRU]
  have hru : RU = N0 ++ Gram.Rf.rUL Nam.uses ks := by rw [hRU, hN0]; simp only [Gram.Rf.rU]
  have hn1 : N0.length ≤ 1 := by rw [hN0]; split <;> simp
  have hzz2 : 1 + Gram.Rf.szL ks ≤ 100000 := by simpa only [Gram.Rf.sz] using hzz
  have hg1 := ga w (.cells #[.int .i64 f, .int .i64 s, .string ⟨nm.toArray⟩, .int .i64 tk, .int .i64 tl, .int .i64 nn, .int .i64 mm, .slice a L c, .int .i64 at_] 37 (0, 0)) none
  have HG1 := ld hg1
  have HK := ld hk
  have HL := ld hL
  have HGr := ld hg
  have HX := ld hx
  have HIH := ld ih
  have HZ := ld hzz2
  have HN0 := ld hn1
  have HRU := ld hru
  clear hg1 hk hL hg hx ih hzz hzz2 hn1 hru hRU
  have hcs : (f == 2) = true ∨ ((f == 2) = false ∧ (f == 9) = true) ∨ ((f == 2) = false ∧ (f == 9) = false ∧ (f == 10) = true) ∨ ((f == 2) = false ∧ (f == 9) = false ∧ (f == 10) = false) := by
   cases (f == 2) <;> cases (f == 9) <;> cases (f == 10) <;> simp
  rcases hcs with h1 | ⟨h1, h2⟩ | ⟨h1, h2, h3⟩ | ⟨h1, h2, h3⟩
  ·have hpf : Nam.uses f = true := by simp [Nam.uses, h1]
   have HNe : Hid (N0 = [nm]) := ld (by rw [hN0, hpf]; rfl)
   clear hN0
   have hc1 : ∀ j u, [Value.string ⟨nm.toArray⟩][j]? = some u → ((w.alloc (.cells #[.int .i64 f, .int .i64 s, .string ⟨nm.toArray⟩, .int .i64 tk, .int .i64 tl, .int .i64 nn, .int .i64 mm, .slice a L c, .int .i64 at_] 37 (0, 0))).alloc (.cells #[.string ⟨nm.toArray⟩] 9)).cell? ((⟨w.heap.size + 1, 0, none⟩ : Addr).add j) = some u := by
    have h9 := cell_one_new (w.alloc (.cells #[.int .i64 f, .int .i64 s, .string ⟨nm.toArray⟩, .int .i64 tk, .int .i64 tl, .int .i64 nn, .int .i64 mm, .slice a L c, .int .i64 at_] 37 (0, 0))) (.string ⟨nm.toArray⟩) 9
    rw [World.size_alloc] at h9
    exact h9
   have HC1 := ld hc1
   clear hc1
   go_enter Tryz.func14, Tryz.ntmps14
   go_wp2_with (at_builtin; refine wpList_append_own _ rfl _ _ 32 rfl (w.heap.size + 1) 9 it _ 1 16 Tryz.underlying32 hit hz hsz hby rfl (by decide) _ 0 [] rfl (World.ownsRow_nil _ _ _ _) ⟨w.heap.size + 1, 0, none⟩ 1 1 [.string ⟨nm.toArray⟩] rfl rfl ?c1 (by simp [Value.oneCell']) (by unfold maxLen; omega) (by omega) (by simp) ?_; rotate_left; (intro v' w1 ho1 hg1 _; obtain ⟨a1, c1, rfl⟩ := rowForm ho1; refine Hid.out ?_))
   case c1 => exact HC1.out
   have hgA := galloc (ga w (.cells #[.int .i64 f, .int .i64 s, .string ⟨nm.toArray⟩, .int .i64 tk, .int .i64 tl, .int .i64 nn, .int .i64 mm, .slice a L c, .int .i64 at_] 37 (0, 0)) none) (.cells #[.string ⟨nm.toArray⟩] 9)
   have hgn : ((w.alloc (.cells #[.int .i64 f, .int .i64 s, .string ⟨nm.toArray⟩, .int .i64 tk, .int .i64 tl, .int .i64 nn, .int .i64 mm, .slice a L c, .int .i64 at_] 37 (0, 0))).alloc (.cells #[.string ⟨nm.toArray⟩] 9)).grownBy w1 none := hg1
   have hgB := hgA.trans hgn
   have hbx := (hgn.block w.heap.size (by simp; omega) (by simp)).trans (((ga (w.alloc (.cells #[.int .i64 f, .int .i64 s, .string ⟨nm.toArray⟩, .int .i64 tk, .int .i64 tl, .int .i64 nn, .int .i64 mm, .slice a L c, .int .i64 at_] 37 (0, 0))) (.cells #[.string ⟨nm.toArray⟩] 9) none).block w.heap.size (by simp) (by simp)).trans (heap_alloc_new w _))
   have HS := ld (And.intro hgB (And.intro hbx ho1))
   clear hgA hgB hbx ho1 hg1 hgn HC1
   refine ld ?_
   go_wp2
   go_loopw [3, 4] (fun lv iv wr => ∃ (t : Nat) (va : Option Addr) (vn vc : Nat), t ≤ L ∧ iv = .int .i64 (t : Int) ∧ lv = .slice va vn vc ∧ Hid (vn = (N0 ++ Gram.Rf.rUL Nam.uses (ks.take t)).length ∧ w.grownBy wr none ∧ wr.heap[w.heap.size]? = some (.cells #[.int .i64 f, .int .i64 s, .string ⟨nm.toArray⟩, .int .i64 tk, .int .i64 tl, .int .i64 nn, .int .i64 mm, .slice a L c, .int .i64 at_] 37 (0, 0)) ∧ wr.ownsRow (w.heap.size + 1) 9 1 (.slice va vn vc) vn ((N0 ++ Gram.Rf.rUL Nam.uses (ks.take t)).map strV))) (fun _ i _ => L - (intOf i).toNat)
   case atStart => exact ⟨0, _, _, _, Nat.zero_le _, rfl, rfl, ld ⟨by simp [HNe.out, Gram.Rf.rUL], HS.out.1, HS.out.2.1, by simpa [HNe.out, Gram.Rf.rUL, strV] using HS.out.2.2⟩⟩
   case round =>
    obtain ⟨t, va, vn, vc, ht, rfl, rfl, HQ⟩ := hrel
    obtain ⟨hvn, q1, q2, q3⟩ := HQ.out
    clear HQ
    have p6 := cell_of_row wr _ 7 _ _ _ q2
    have hgr := HGr.out.trans q1
    by_cases hlt : t < L
    ·obtain ⟨k, hkt⟩ : ∃ k, ks[t]? = some k := ⟨_, List.getElem?_eq_getElem (by rw [← HL.out]; exact hlt)⟩
     obtain ⟨g, pa, pn, pc, rfl, hkk, hcs⟩ := expAt HK.out hkt
     have hsz := kid_lt hkt (f := f) (s := s) (nm := nm) (tk := tk) (tl := tl) (n := nn) (m := mm) (a := at_)
     have hzk := szL_at hkt
     have hc := HIH.out k (by have := HX.out; omega) wr pa pn pc hgr hkk (by have := HZ.out; omega)
     have hs3 := rUL_succ Nam.uses hkt
     have hl1 := Gram.Rf.rU_len Nam.uses k
     have hl2 := Nat.le_trans (Gram.Rf.rUL_len Nam.uses (ks.take t)) (szL_take ks t)
     obtain ⟨ys, hys⟩ : ∃ ys, ys = Gram.Rf.rU Nam.uses k := ⟨_, rfl⟩
     rw [← hys] at hc hs3 hl1
     obtain ⟨zs, hzs⟩ : ∃ zs, zs = N0 ++ Gram.Rf.rUL Nam.uses (ks.take t) := ⟨_, rfl⟩
     have hz2 : N0 ++ Gram.Rf.rUL Nam.uses (ks.take (t + 1)) = zs ++ ys := by rw [hs3, hzs, List.append_assoc]
     rw [← hzs] at q3 hvn
     have hzl : zs.length ≤ 1 + Gram.Rf.szL ks := by rw [hzs, List.length_append]; have := HN0.out; omega
     have HZ2 := ld hz2
     have HB := ld (show vn + ys.length ≤ 1000000 by have := HZ.out; omega)
     have HV := ld hvn
     clear hsz hzk hs3 hl1 hl2 hys hzs hz2 hzl hvn
     cases k with
     | mk f1 s1 nm1 tk1 tl1 n1 m1 ks1 a1 =>
     simp only [expCells] at hc hcs
     have v0 := hgr.cell (hcs 0 _ rfl) (by simp)
     have v1 := hgr.cell (hcs 1 _ rfl) (by simp)
     have v2 := hgr.cell (hcs 2 _ rfl) (by simp)
     have v3 := hgr.cell (hcs 3 _ rfl) (by simp)
     have v4 := hgr.cell (hcs 4 _ rfl) (by simp)
     have v5 := hgr.cell (hcs 5 _ rfl) (by simp)
     have v6 := hgr.cell (hcs 6 _ rfl) (by simp)
     have v7 := hgr.cell (hcs 7 _ rfl) (by simp)
     have v8 := hgr.cell (hcs 8 _ rfl) (by simp)
     rw [Nat.add_zero] at v0
     have HQ1 := ld (And.intro q1 (And.intro q2 q3))
     clear hcs hkk hgr q1 q2 q3 hkt
     go_wp2_with (go_at_call 14; refine hc.mono ?_; rintro e w2 ⟨v9, rfl, ho2, hg2⟩; obtain ⟨a9, c9, rfl⟩ := rowForm ho2; refine Hid.out ?_)
     have ho1 := HQ1.out.2.2.kept hg2 (by cases va <;> simp [Value.ownBlock])
     have hB2 : w.heap.size + 1 ≤ w2.heap.size := by have h1 := gl HQ1.out.2.1; have h2 := hg2.size; omega
     have HG2 := ld hg2
     clear v0 v1 v2 v3 v4 v5 v6 v7 v8 p6 hc hg2
     refine ld ?_
     go_wp2_with (at_builtin; refine wpList_append2 rfl _ _ rfl (w.heap.size + 1) wr.heap.size _ _ vn ys.length _ _ rfl rfl ho1 ho2 (str_one _) hB2 HB.out ?_; intro v' w3 ho3 hg3; obtain ⟨a3, c3, rfl⟩ := rowForm ho3; refine Hid.out ?_)
     have hlo := ho1.lt
     have hn3 : (Value.slice va vn vc).ownBlock ≠ some w.heap.size := fun e => by have := (hlo _ e).1; omega
     have hgw3 : w.grownBy w3 none := (HQ1.out.1.trans HG2.out).andThen hg3 (fun j e => .inl (by have := (hlo j e).1; omega))
     have hbx := (hg3.block _ (by omega) (fun e => hn3 e.symm)).trans ((HG2.out.block _ (gl HQ1.out.2.1) (by simp)).trans HQ1.out.2.1)
     have HF := ld (And.intro hgw3 (And.intro hbx ho3))
     clear hlo hn3 hgw3 hbx ho3 ho1 ho2 hg3 hB2
     refine ld ?_
     go_wp2
     exact ⟨⟨t + 1, a3, vn + ys.length, c3, by omega, by go_num, rfl, ld ⟨by rw [HZ2.out, List.length_append, HV.out], HF.out.1, HF.out.2.1, by rw [HZ2.out, List.map_append]; exact HF.out.2.2⟩⟩, by simp [intOf]; omega⟩
    ·have e : t = L := by omega
     subst e
     rw [List.take_of_length_le (by rw [← HL.out]; exact Nat.le_refl _)] at q3 hvn
     have HF := ld (And.intro q1 (And.intro q3 hvn))
     clear hgr q1 q2 q3 hvn
     go_wp2
     go_ret
     refine ⟨_, rfl, ?_, HF.out.1⟩
     rw [HRU.out, ← HF.out.2.2]
     obtain ⟨q3, hvn⟩ := HF.out.2
     exact q3.mono (by omega)
  ·have hpf : Nam.uses f = true := by simp [Nam.uses, h1, h2]
   have HNe : Hid (N0 = [nm]) := ld (by rw [hN0, hpf]; rfl)
   clear hN0
   have hc1 : ∀ j u, [Value.string ⟨nm.toArray⟩][j]? = some u → ((w.alloc (.cells #[.int .i64 f, .int .i64 s, .string ⟨nm.toArray⟩, .int .i64 tk, .int .i64 tl, .int .i64 nn, .int .i64 mm, .slice a L c, .int .i64 at_] 37 (0, 0))).alloc (.cells #[.string ⟨nm.toArray⟩] 9)).cell? ((⟨w.heap.size + 1, 0, none⟩ : Addr).add j) = some u := by
    have h9 := cell_one_new (w.alloc (.cells #[.int .i64 f, .int .i64 s, .string ⟨nm.toArray⟩, .int .i64 tk, .int .i64 tl, .int .i64 nn, .int .i64 mm, .slice a L c, .int .i64 at_] 37 (0, 0))) (.string ⟨nm.toArray⟩) 9
    rw [World.size_alloc] at h9
    exact h9
   have HC1 := ld hc1
   clear hc1
   go_enter Tryz.func14, Tryz.ntmps14
   go_wp2_with (at_builtin; refine wpList_append_own _ rfl _ _ 32 rfl (w.heap.size + 1) 9 it _ 1 16 Tryz.underlying32 hit hz hsz hby rfl (by decide) _ 0 [] rfl (World.ownsRow_nil _ _ _ _) ⟨w.heap.size + 1, 0, none⟩ 1 1 [.string ⟨nm.toArray⟩] rfl rfl ?c1 (by simp [Value.oneCell']) (by unfold maxLen; omega) (by omega) (by simp) ?_; rotate_left; (intro v' w1 ho1 hg1 _; obtain ⟨a1, c1, rfl⟩ := rowForm ho1; refine Hid.out ?_))
   case c1 => exact HC1.out
   have hgA := galloc (ga w (.cells #[.int .i64 f, .int .i64 s, .string ⟨nm.toArray⟩, .int .i64 tk, .int .i64 tl, .int .i64 nn, .int .i64 mm, .slice a L c, .int .i64 at_] 37 (0, 0)) none) (.cells #[.string ⟨nm.toArray⟩] 9)
   have hgn : ((w.alloc (.cells #[.int .i64 f, .int .i64 s, .string ⟨nm.toArray⟩, .int .i64 tk, .int .i64 tl, .int .i64 nn, .int .i64 mm, .slice a L c, .int .i64 at_] 37 (0, 0))).alloc (.cells #[.string ⟨nm.toArray⟩] 9)).grownBy w1 none := hg1
   have hgB := hgA.trans hgn
   have hbx := (hgn.block w.heap.size (by simp; omega) (by simp)).trans (((ga (w.alloc (.cells #[.int .i64 f, .int .i64 s, .string ⟨nm.toArray⟩, .int .i64 tk, .int .i64 tl, .int .i64 nn, .int .i64 mm, .slice a L c, .int .i64 at_] 37 (0, 0))) (.cells #[.string ⟨nm.toArray⟩] 9) none).block w.heap.size (by simp) (by simp)).trans (heap_alloc_new w _))
   have HS := ld (And.intro hgB (And.intro hbx ho1))
   clear hgA hgB hbx ho1 hg1 hgn HC1
   refine ld ?_
   go_wp2
   go_loopw [3, 4] (fun lv iv wr => ∃ (t : Nat) (va : Option Addr) (vn vc : Nat), t ≤ L ∧ iv = .int .i64 (t : Int) ∧ lv = .slice va vn vc ∧ Hid (vn = (N0 ++ Gram.Rf.rUL Nam.uses (ks.take t)).length ∧ w.grownBy wr none ∧ wr.heap[w.heap.size]? = some (.cells #[.int .i64 f, .int .i64 s, .string ⟨nm.toArray⟩, .int .i64 tk, .int .i64 tl, .int .i64 nn, .int .i64 mm, .slice a L c, .int .i64 at_] 37 (0, 0)) ∧ wr.ownsRow (w.heap.size + 1) 9 1 (.slice va vn vc) vn ((N0 ++ Gram.Rf.rUL Nam.uses (ks.take t)).map strV))) (fun _ i _ => L - (intOf i).toNat)
   case atStart => exact ⟨0, _, _, _, Nat.zero_le _, rfl, rfl, ld ⟨by simp [HNe.out, Gram.Rf.rUL], HS.out.1, HS.out.2.1, by simpa [HNe.out, Gram.Rf.rUL, strV] using HS.out.2.2⟩⟩
   case round =>
    obtain ⟨t, va, vn, vc, ht, rfl, rfl, HQ⟩ := hrel
    obtain ⟨hvn, q1, q2, q3⟩ := HQ.out
    clear HQ
    have p6 := cell_of_row wr _ 7 _ _ _ q2
    have hgr := HGr.out.trans q1
    by_cases hlt : t < L
    ·obtain ⟨k, hkt⟩ : ∃ k, ks[t]? = some k := ⟨_, List.getElem?_eq_getElem (by rw [← HL.out]; exact hlt)⟩
     obtain ⟨g, pa, pn, pc, rfl, hkk, hcs⟩ := expAt HK.out hkt
     have hsz := kid_lt hkt (f := f) (s := s) (nm := nm) (tk := tk) (tl := tl) (n := nn) (m := mm) (a := at_)
     have hzk := szL_at hkt
     have hc := HIH.out k (by have := HX.out; omega) wr pa pn pc hgr hkk (by have := HZ.out; omega)
     have hs3 := rUL_succ Nam.uses hkt
     have hl1 := Gram.Rf.rU_len Nam.uses k
     have hl2 := Nat.le_trans (Gram.Rf.rUL_len Nam.uses (ks.take t)) (szL_take ks t)
     obtain ⟨ys, hys⟩ : ∃ ys, ys = Gram.Rf.rU Nam.uses k := ⟨_, rfl⟩
     rw [← hys] at hc hs3 hl1
     obtain ⟨zs, hzs⟩ : ∃ zs, zs = N0 ++ Gram.Rf.rUL Nam.uses (ks.take t) := ⟨_, rfl⟩
     have hz2 : N0 ++ Gram.Rf.rUL Nam.uses (ks.take (t + 1)) = zs ++ ys := by rw [hs3, hzs, List.append_assoc]
     rw [← hzs] at q3 hvn
     have hzl : zs.length ≤ 1 + Gram.Rf.szL ks := by rw [hzs, List.length_append]; have := HN0.out; omega
     have HZ2 := ld hz2
     have HB := ld (show vn + ys.length ≤ 1000000 by have := HZ.out; omega)
     have HV := ld hvn
     clear hsz hzk hs3 hl1 hl2 hys hzs hz2 hzl hvn
     cases k with
     | mk f1 s1 nm1 tk1 tl1 n1 m1 ks1 a1 =>
     simp only [expCells] at hc hcs
     have v0 := hgr.cell (hcs 0 _ rfl) (by simp)
     have v1 := hgr.cell (hcs 1 _ rfl) (by simp)
     have v2 := hgr.cell (hcs 2 _ rfl) (by simp)
     have v3 := hgr.cell (hcs 3 _ rfl) (by simp)
     have v4 := hgr.cell (hcs 4 _ rfl) (by simp)
     have v5 := hgr.cell (hcs 5 _ rfl) (by simp)
     have v6 := hgr.cell (hcs 6 _ rfl) (by simp)
     have v7 := hgr.cell (hcs 7 _ rfl) (by simp)
     have v8 := hgr.cell (hcs 8 _ rfl) (by simp)
     rw [Nat.add_zero] at v0
     have HQ1 := ld (And.intro q1 (And.intro q2 q3))
     clear hcs hkk hgr q1 q2 q3 hkt
     go_wp2_with (go_at_call 14; refine hc.mono ?_; rintro e w2 ⟨v9, rfl, ho2, hg2⟩; obtain ⟨a9, c9, rfl⟩ := rowForm ho2; refine Hid.out ?_)
     have ho1 := HQ1.out.2.2.kept hg2 (by cases va <;> simp [Value.ownBlock])
     have hB2 : w.heap.size + 1 ≤ w2.heap.size := by have h1 := gl HQ1.out.2.1; have h2 := hg2.size; omega
     have HG2 := ld hg2
     clear v0 v1 v2 v3 v4 v5 v6 v7 v8 p6 hc hg2
     refine ld ?_
     go_wp2_with (at_builtin; refine wpList_append2 rfl _ _ rfl (w.heap.size + 1) wr.heap.size _ _ vn ys.length _ _ rfl rfl ho1 ho2 (str_one _) hB2 HB.out ?_; intro v' w3 ho3 hg3; obtain ⟨a3, c3, rfl⟩ := rowForm ho3; refine Hid.out ?_)
     have hlo := ho1.lt
     have hn3 : (Value.slice va vn vc).ownBlock ≠ some w.heap.size := fun e => by have := (hlo _ e).1; omega
     have hgw3 : w.grownBy w3 none := (HQ1.out.1.trans HG2.out).andThen hg3 (fun j e => .inl (by have := (hlo j e).1; omega))
     have hbx := (hg3.block _ (by omega) (fun e => hn3 e.symm)).trans ((HG2.out.block _ (gl HQ1.out.2.1) (by simp)).trans HQ1.out.2.1)
     have HF := ld (And.intro hgw3 (And.intro hbx ho3))
     clear hlo hn3 hgw3 hbx ho3 ho1 ho2 hg3 hB2
     refine ld ?_
     go_wp2
     exact ⟨⟨t + 1, a3, vn + ys.length, c3, by omega, by go_num, rfl, ld ⟨by rw [HZ2.out, List.length_append, HV.out], HF.out.1, HF.out.2.1, by rw [HZ2.out, List.map_append]; exact HF.out.2.2⟩⟩, by simp [intOf]; omega⟩
    ·have e : t = L := by omega
     subst e
     rw [List.take_of_length_le (by rw [← HL.out]; exact Nat.le_refl _)] at q3 hvn
     have HF := ld (And.intro q1 (And.intro q3 hvn))
     clear hgr q1 q2 q3 hvn
     go_wp2
     go_ret
     refine ⟨_, rfl, ?_, HF.out.1⟩
     rw [HRU.out, ← HF.out.2.2]
     obtain ⟨q3, hvn⟩ := HF.out.2
     exact q3.mono (by omega)
  ·have hpf : Nam.uses f = true := by simp [Nam.uses, h1, h2, h3]
   have HNe : Hid (N0 = [nm]) := ld (by rw [hN0, hpf]; rfl)
   clear hN0
   have hc1 : ∀ j u, [Value.string ⟨nm.toArray⟩][j]? = some u → ((w.alloc (.cells #[.int .i64 f, .int .i64 s, .string ⟨nm.toArray⟩, .int .i64 tk, .int .i64 tl, .int .i64 nn, .int .i64 mm, .slice a L c, .int .i64 at_] 37 (0, 0))).alloc (.cells #[.string ⟨nm.toArray⟩] 9)).cell? ((⟨w.heap.size + 1, 0, none⟩ : Addr).add j) = some u := by
    have h9 := cell_one_new (w.alloc (.cells #[.int .i64 f, .int .i64 s, .string ⟨nm.toArray⟩, .int .i64 tk, .int .i64 tl, .int .i64 nn, .int .i64 mm, .slice a L c, .int .i64 at_] 37 (0, 0))) (.string ⟨nm.toArray⟩) 9
    rw [World.size_alloc] at h9
    exact h9
   have HC1 := ld hc1
   clear hc1
   go_enter Tryz.func14, Tryz.ntmps14
   go_wp2_with (at_builtin; refine wpList_append_own _ rfl _ _ 32 rfl (w.heap.size + 1) 9 it _ 1 16 Tryz.underlying32 hit hz hsz hby rfl (by decide) _ 0 [] rfl (World.ownsRow_nil _ _ _ _) ⟨w.heap.size + 1, 0, none⟩ 1 1 [.string ⟨nm.toArray⟩] rfl rfl ?c1 (by simp [Value.oneCell']) (by unfold maxLen; omega) (by omega) (by simp) ?_; rotate_left; (intro v' w1 ho1 hg1 _; obtain ⟨a1, c1, rfl⟩ := rowForm ho1; refine Hid.out ?_))
   case c1 => exact HC1.out
   have hgA := galloc (ga w (.cells #[.int .i64 f, .int .i64 s, .string ⟨nm.toArray⟩, .int .i64 tk, .int .i64 tl, .int .i64 nn, .int .i64 mm, .slice a L c, .int .i64 at_] 37 (0, 0)) none) (.cells #[.string ⟨nm.toArray⟩] 9)
   have hgn : ((w.alloc (.cells #[.int .i64 f, .int .i64 s, .string ⟨nm.toArray⟩, .int .i64 tk, .int .i64 tl, .int .i64 nn, .int .i64 mm, .slice a L c, .int .i64 at_] 37 (0, 0))).alloc (.cells #[.string ⟨nm.toArray⟩] 9)).grownBy w1 none := hg1
   have hgB := hgA.trans hgn
   have hbx := (hgn.block w.heap.size (by simp; omega) (by simp)).trans (((ga (w.alloc (.cells #[.int .i64 f, .int .i64 s, .string ⟨nm.toArray⟩, .int .i64 tk, .int .i64 tl, .int .i64 nn, .int .i64 mm, .slice a L c, .int .i64 at_] 37 (0, 0))) (.cells #[.string ⟨nm.toArray⟩] 9) none).block w.heap.size (by simp) (by simp)).trans (heap_alloc_new w _))
   have HS := ld (And.intro hgB (And.intro hbx ho1))
   clear hgA hgB hbx ho1 hg1 hgn HC1
   refine ld ?_
   go_wp2
   go_loopw [3, 4] (fun lv iv wr => ∃ (t : Nat) (va : Option Addr) (vn vc : Nat), t ≤ L ∧ iv = .int .i64 (t : Int) ∧ lv = .slice va vn vc ∧ Hid (vn = (N0 ++ Gram.Rf.rUL Nam.uses (ks.take t)).length ∧ w.grownBy wr none ∧ wr.heap[w.heap.size]? = some (.cells #[.int .i64 f, .int .i64 s, .string ⟨nm.toArray⟩, .int .i64 tk, .int .i64 tl, .int .i64 nn, .int .i64 mm, .slice a L c, .int .i64 at_] 37 (0, 0)) ∧ wr.ownsRow (w.heap.size + 1) 9 1 (.slice va vn vc) vn ((N0 ++ Gram.Rf.rUL Nam.uses (ks.take t)).map strV))) (fun _ i _ => L - (intOf i).toNat)
   case atStart => exact ⟨0, _, _, _, Nat.zero_le _, rfl, rfl, ld ⟨by simp [HNe.out, Gram.Rf.rUL], HS.out.1, HS.out.2.1, by simpa [HNe.out, Gram.Rf.rUL, strV] using HS.out.2.2⟩⟩
   case round =>
    obtain ⟨t, va, vn, vc, ht, rfl, rfl, HQ⟩ := hrel
    obtain ⟨hvn, q1, q2, q3⟩ := HQ.out
    clear HQ
    have p6 := cell_of_row wr _ 7 _ _ _ q2
    have hgr := HGr.out.trans q1
    by_cases hlt : t < L
    ·obtain ⟨k, hkt⟩ : ∃ k, ks[t]? = some k := ⟨_, List.getElem?_eq_getElem (by rw [← HL.out]; exact hlt)⟩
     obtain ⟨g, pa, pn, pc, rfl, hkk, hcs⟩ := expAt HK.out hkt
     have hsz := kid_lt hkt (f := f) (s := s) (nm := nm) (tk := tk) (tl := tl) (n := nn) (m := mm) (a := at_)
     have hzk := szL_at hkt
     have hc := HIH.out k (by have := HX.out; omega) wr pa pn pc hgr hkk (by have := HZ.out; omega)
     have hs3 := rUL_succ Nam.uses hkt
     have hl1 := Gram.Rf.rU_len Nam.uses k
     have hl2 := Nat.le_trans (Gram.Rf.rUL_len Nam.uses (ks.take t)) (szL_take ks t)
     obtain ⟨ys, hys⟩ : ∃ ys, ys = Gram.Rf.rU Nam.uses k := ⟨_, rfl⟩
     rw [← hys] at hc hs3 hl1
     obtain ⟨zs, hzs⟩ : ∃ zs, zs = N0 ++ Gram.Rf.rUL Nam.uses (ks.take t) := ⟨_, rfl⟩
     have hz2 : N0 ++ Gram.Rf.rUL Nam.uses (ks.take (t + 1)) = zs ++ ys := by rw [hs3, hzs, List.append_assoc]
     rw [← hzs] at q3 hvn
     have hzl : zs.length ≤ 1 + Gram.Rf.szL ks := by rw [hzs, List.length_append]; have := HN0.out; omega
     have HZ2 := ld hz2
     have HB := ld (show vn + ys.length ≤ 1000000 by have := HZ.out; omega)
     have HV := ld hvn
     clear hsz hzk hs3 hl1 hl2 hys hzs hz2 hzl hvn
     cases k with
     | mk f1 s1 nm1 tk1 tl1 n1 m1 ks1 a1 =>
     simp only [expCells] at hc hcs
     have v0 := hgr.cell (hcs 0 _ rfl) (by simp)
     have v1 := hgr.cell (hcs 1 _ rfl) (by simp)
     have v2 := hgr.cell (hcs 2 _ rfl) (by simp)
     have v3 := hgr.cell (hcs 3 _ rfl) (by simp)
     have v4 := hgr.cell (hcs 4 _ rfl) (by simp)
     have v5 := hgr.cell (hcs 5 _ rfl) (by simp)
     have v6 := hgr.cell (hcs 6 _ rfl) (by simp)
     have v7 := hgr.cell (hcs 7 _ rfl) (by simp)
     have v8 := hgr.cell (hcs 8 _ rfl) (by simp)
     rw [Nat.add_zero] at v0
     have HQ1 := ld (And.intro q1 (And.intro q2 q3))
     clear hcs hkk hgr q1 q2 q3 hkt
     go_wp2_with (go_at_call 14; refine hc.mono ?_; rintro e w2 ⟨v9, rfl, ho2, hg2⟩; obtain ⟨a9, c9, rfl⟩ := rowForm ho2; refine Hid.out ?_)
     have ho1 := HQ1.out.2.2.kept hg2 (by cases va <;> simp [Value.ownBlock])
     have hB2 : w.heap.size + 1 ≤ w2.heap.size := by have h1 := gl HQ1.out.2.1; have h2 := hg2.size; omega
     have HG2 := ld hg2
     clear v0 v1 v2 v3 v4 v5 v6 v7 v8 p6 hc hg2
     refine ld ?_
     go_wp2_with (at_builtin; refine wpList_append2 rfl _ _ rfl (w.heap.size + 1) wr.heap.size _ _ vn ys.length _ _ rfl rfl ho1 ho2 (str_one _) hB2 HB.out ?_; intro v' w3 ho3 hg3; obtain ⟨a3, c3, rfl⟩ := rowForm ho3; refine Hid.out ?_)
     have hlo := ho1.lt
     have hn3 : (Value.slice va vn vc).ownBlock ≠ some w.heap.size := fun e => by have := (hlo _ e).1; omega
     have hgw3 : w.grownBy w3 none := (HQ1.out.1.trans HG2.out).andThen hg3 (fun j e => .inl (by have := (hlo j e).1; omega))
     have hbx := (hg3.block _ (by omega) (fun e => hn3 e.symm)).trans ((HG2.out.block _ (gl HQ1.out.2.1) (by simp)).trans HQ1.out.2.1)
     have HF := ld (And.intro hgw3 (And.intro hbx ho3))
     clear hlo hn3 hgw3 hbx ho3 ho1 ho2 hg3 hB2
     refine ld ?_
     go_wp2
     exact ⟨⟨t + 1, a3, vn + ys.length, c3, by omega, by go_num, rfl, ld ⟨by rw [HZ2.out, List.length_append, HV.out], HF.out.1, HF.out.2.1, by rw [HZ2.out, List.map_append]; exact HF.out.2.2⟩⟩, by simp [intOf]; omega⟩
    ·have e : t = L := by omega
     subst e
     rw [List.take_of_length_le (by rw [← HL.out]; exact Nat.le_refl _)] at q3 hvn
     have HF := ld (And.intro q1 (And.intro q3 hvn))
     clear hgr q1 q2 q3 hvn
     go_wp2
     go_ret
     refine ⟨_, rfl, ?_, HF.out.1⟩
     rw [HRU.out, ← HF.out.2.2]
     obtain ⟨q3, hvn⟩ := HF.out.2
     exact q3.mono (by omega)
  ·have hpf : Nam.uses f = false := by simp [Nam.uses, h1, h2, h3]
   have HNe : Hid (N0 = []) := ld (by rw [hN0, hpf]; rfl)
   clear hN0
   go_enter Tryz.func14, Tryz.ntmps14
   go_wp2
   go_loopw [3, 4] (fun lv iv wr => ∃ (t : Nat) (va : Option Addr) (vn vc : Nat), t ≤ L ∧ iv = .int .i64 (t : Int) ∧ lv = .slice va vn vc ∧ Hid (vn = (N0 ++ Gram.Rf.rUL Nam.uses (ks.take t)).length ∧ w.grownBy wr none ∧ wr.heap[w.heap.size]? = some (.cells #[.int .i64 f, .int .i64 s, .string ⟨nm.toArray⟩, .int .i64 tk, .int .i64 tl, .int .i64 nn, .int .i64 mm, .slice a L c, .int .i64 at_] 37 (0, 0)) ∧ wr.ownsRow (w.heap.size + 1) 9 1 (.slice va vn vc) vn ((N0 ++ Gram.Rf.rUL Nam.uses (ks.take t)).map strV))) (fun _ i _ => L - (intOf i).toNat)
   case atStart => exact ⟨0, _, _, _, Nat.zero_le _, rfl, rfl, ld ⟨by simp [HNe.out, Gram.Rf.rUL], HG1.out, heap_alloc_new w _, by simpa [HNe.out, Gram.Rf.rUL] using World.ownsRow_nil _ _ _ _⟩⟩
   case round =>
    obtain ⟨t, va, vn, vc, ht, rfl, rfl, HQ⟩ := hrel
    obtain ⟨hvn, q1, q2, q3⟩ := HQ.out
    clear HQ
    have p6 := cell_of_row wr _ 7 _ _ _ q2
    have hgr := HGr.out.trans q1
    by_cases hlt : t < L
    ·obtain ⟨k, hkt⟩ : ∃ k, ks[t]? = some k := ⟨_, List.getElem?_eq_getElem (by rw [← HL.out]; exact hlt)⟩
     obtain ⟨g, pa, pn, pc, rfl, hkk, hcs⟩ := expAt HK.out hkt
     have hsz := kid_lt hkt (f := f) (s := s) (nm := nm) (tk := tk) (tl := tl) (n := nn) (m := mm) (a := at_)
     have hzk := szL_at hkt
     have hc := HIH.out k (by have := HX.out; omega) wr pa pn pc hgr hkk (by have := HZ.out; omega)
     have hs3 := rUL_succ Nam.uses hkt
     have hl1 := Gram.Rf.rU_len Nam.uses k
     have hl2 := Nat.le_trans (Gram.Rf.rUL_len Nam.uses (ks.take t)) (szL_take ks t)
     obtain ⟨ys, hys⟩ : ∃ ys, ys = Gram.Rf.rU Nam.uses k := ⟨_, rfl⟩
     rw [← hys] at hc hs3 hl1
     obtain ⟨zs, hzs⟩ : ∃ zs, zs = N0 ++ Gram.Rf.rUL Nam.uses (ks.take t) := ⟨_, rfl⟩
     have hz2 : N0 ++ Gram.Rf.rUL Nam.uses (ks.take (t + 1)) = zs ++ ys := by rw [hs3, hzs, List.append_assoc]
     rw [← hzs] at q3 hvn
     have hzl : zs.length ≤ 1 + Gram.Rf.szL ks := by rw [hzs, List.length_append]; have := HN0.out; omega
     have HZ2 := ld hz2
     have HB := ld (show vn + ys.length ≤ 1000000 by have := HZ.out; omega)
     have HV := ld hvn
     clear hsz hzk hs3 hl1 hl2 hys hzs hz2 hzl hvn
     cases k with
     | mk f1 s1 nm1 tk1 tl1 n1 m1 ks1 a1 =>
     simp only [expCells] at hc hcs
     have v0 := hgr.cell (hcs 0 _ rfl) (by simp)
     have v1 := hgr.cell (hcs 1 _ rfl) (by simp)
     have v2 := hgr.cell (hcs 2 _ rfl) (by simp)
     have v3 := hgr.cell (hcs 3 _ rfl) (by simp)
     have v4 := hgr.cell (hcs 4 _ rfl) (by simp)
     have v5 := hgr.cell (hcs 5 _ rfl) (by simp)
     have v6 := hgr.cell (hcs 6 _ rfl) (by simp)
     have v7 := hgr.cell (hcs 7 _ rfl) (by simp)
     have v8 := hgr.cell (hcs 8 _ rfl) (by simp)
     rw [Nat.add_zero] at v0
     have HQ1 := ld (And.intro q1 (And.intro q2 q3))
     clear hcs hkk hgr q1 q2 q3 hkt
     go_wp2_with (go_at_call 14; refine hc.mono ?_; rintro e w2 ⟨v9, rfl, ho2, hg2⟩; obtain ⟨a9, c9, rfl⟩ := rowForm ho2; refine Hid.out ?_)
     have ho1 := HQ1.out.2.2.kept hg2 (by cases va <;> simp [Value.ownBlock])
     have hB2 : w.heap.size + 1 ≤ w2.heap.size := by have h1 := gl HQ1.out.2.1; have h2 := hg2.size; omega
     have HG2 := ld hg2
     clear v0 v1 v2 v3 v4 v5 v6 v7 v8 p6 hc hg2
     refine ld ?_
     go_wp2_with (at_builtin; refine wpList_append2 rfl _ _ rfl (w.heap.size + 1) wr.heap.size _ _ vn ys.length _ _ rfl rfl ho1 ho2 (str_one _) hB2 HB.out ?_; intro v' w3 ho3 hg3; obtain ⟨a3, c3, rfl⟩ := rowForm ho3; refine Hid.out ?_)
     have hlo := ho1.lt
     have hn3 : (Value.slice va vn vc).ownBlock ≠ some w.heap.size := fun e => by have := (hlo _ e).1; omega
     have hgw3 : w.grownBy w3 none := (HQ1.out.1.trans HG2.out).andThen hg3 (fun j e => .inl (by have := (hlo j e).1; omega))
     have hbx := (hg3.block _ (by omega) (fun e => hn3 e.symm)).trans ((HG2.out.block _ (gl HQ1.out.2.1) (by simp)).trans HQ1.out.2.1)
     have HF := ld (And.intro hgw3 (And.intro hbx ho3))
     clear hlo hn3 hgw3 hbx ho3 ho1 ho2 hg3 hB2
     refine ld ?_
     go_wp2
     exact ⟨⟨t + 1, a3, vn + ys.length, c3, by omega, by go_num, rfl, ld ⟨by rw [HZ2.out, List.length_append, HV.out], HF.out.1, HF.out.2.1, by rw [HZ2.out, List.map_append]; exact HF.out.2.2⟩⟩, by simp [intOf]; omega⟩
    ·have e : t = L := by omega
     subst e
     rw [List.take_of_length_le (by rw [← HL.out]; exact Nat.le_refl _)] at q3 hvn
     have HF := ld (And.intro q1 (And.intro q3 hvn))
     clear hgr q1 q2 q3 hvn
     go_wp2
     go_ret
     refine ⟨_, rfl, ?_, HF.out.1⟩
     rw [HRU.out, ← HF.out.2.2]
     obtain ⟨q3, hvn⟩ := HF.out.2
     exact q3.mono (by omega)
theorem rCalls_any (w0 : World) : ∀ (m : Nat) (x : Gram.Exp), SizeOf.sizeOf x ≤ m → ∀ (w : World) (a : Option Addr) (L c : Nat), w0.grownBy w none → KidsX w0 0 [] x.kids (.slice a L c) → Gram.Rf.sz x ≤ 100000 →
  Calls Tryz.prog 15 #[.agg (expCells x (.slice a L c)).toArray] w fun e w' => ∃ v, e = .returned v ∧ w'.ownsRow w.heap.size 9 1 v (Gram.Rf.rU Nam.calls x).length ((Gram.Rf.rU Nam.calls x).map strV) ∧ w.grownBy w' none := by
 intro m
 induction m with
 | zero => intro x hx; cases x; simp at hx
 | succ m ih =>
  intro x hx w a L c hg hk hzz
  obtain ⟨f, s, nm, tk, tl, nn, mm, ks, at_⟩ := x
  simp only [Gram.Exp.kids] at hk
  obtain ⟨hL, hLm⟩ := kidsLen hk
  unfold maxLen at hLm
  simp only [expCells]
  obtain ⟨it, hit, hz, hsz, hby⟩ := infoP info_string
  obtain ⟨N0, hN0⟩ : ∃ N0, N0 = (if Nam.calls f then [nm] else []) := ⟨_, rfl⟩
  obtain ⟨RU, hRU⟩ : ∃ RU, RU = Gram.Rf.rU Nam.calls (Gram.Exp.mk f s nm tk tl nn mm ks at_) := ⟨_, rfl⟩
  rw [← hRU]
  have hru : RU = N0 ++ Gram.Rf.rUL Nam.calls ks := by rw [hRU, hN0]; simp only [Gram.Rf.rU]
  have hn1 : N0.length ≤ 1 := by rw [hN0]; split <;> simp
  have hzz2 : 1 + Gram.Rf.szL ks ≤ 100000 := by simpa only [Gram.Rf.sz] using hzz
  have hg1 := ga w (.cells #[.int .i64 f, .int .i64 s, .string ⟨nm.toArray⟩, .int .i64 tk, .int .i64 tl, .int .i64 nn, .int .i64 mm, .slice a L c, .int .i64 at_] 37 (0, 0)) none
  have HG1 := ld hg1
  have HK := ld hk
  have HL := ld hL
  have HGr := ld hg
  have HX := ld hx
  have HIH := ld ih
  have HZ := ld hzz2
  have HN0 := ld hn1
  have HRU := ld hru
  clear hg1 hk hL hg hx ih hzz hzz2 hn1 hru hRU
  have hic := isCall_any f
  rcases Bool.eq_false_or_eq_true (Nam.calls f) with hpf | hpf
  ·rw [hpf] at hic
   have HNe : Hid (N0 = [nm]) := ld (by rw [hN0, hpf]; rfl)
   clear hN0
   have hc1 : ∀ j u, [Value.string ⟨nm.toArray⟩][j]? = some u → ((w.alloc (.cells #[.int .i64 f, .int .i64 s, .string ⟨nm.toArray⟩, .int .i64 tk, .int .i64 tl, .int .i64 nn, .int .i64 mm, .slice a L c, .int .i64 at_] 37 (0, 0))).alloc (.cells #[.string ⟨nm.toArray⟩] 9)).cell? ((⟨w.heap.size + 1, 0, none⟩ : Addr).add j) = some u := by
    have h9 := cell_one_new (w.alloc (.cells #[.int .i64 f, .int .i64 s, .string ⟨nm.toArray⟩, .int .i64 tk, .int .i64 tl, .int .i64 nn, .int .i64 mm, .slice a L c, .int .i64 at_] 37 (0, 0))) (.string ⟨nm.toArray⟩) 9
    rw [World.size_alloc] at h9
    exact h9
   have HC1 := ld hc1
   clear hc1
   go_enter Tryz.func15, Tryz.ntmps15
   go_wp2_with (first | (go_at_call 24; refine (hic _).mono ?_; rintro e w1 ⟨rfl, rfl⟩) | (at_builtin; refine wpList_append_own _ rfl _ _ 32 rfl (w.heap.size + 1) 9 it _ 1 16 Tryz.underlying32 hit hz hsz hby rfl (by decide) _ 0 [] rfl (World.ownsRow_nil _ _ _ _) ⟨w.heap.size + 1, 0, none⟩ 1 1 [.string ⟨nm.toArray⟩] rfl rfl ?c1 (by simp [Value.oneCell']) (by unfold maxLen; omega) (by omega) (by simp) ?_; rotate_left; (intro v' w1 ho1 hg1 _; obtain ⟨a1, c1, rfl⟩ := rowForm ho1; refine Hid.out ?_)))
   case c1 => exact HC1.out
   have hgA := galloc (ga w (.cells #[.int .i64 f, .int .i64 s, .string ⟨nm.toArray⟩, .int .i64 tk, .int .i64 tl, .int .i64 nn, .int .i64 mm, .slice a L c, .int .i64 at_] 37 (0, 0)) none) (.cells #[.string ⟨nm.toArray⟩] 9)
   have hgn : ((w.alloc (.cells #[.int .i64 f, .int .i64 s, .string ⟨nm.toArray⟩, .int .i64 tk, .int .i64 tl, .int .i64 nn, .int .i64 mm, .slice a L c, .int .i64 at_] 37 (0, 0))).alloc (.cells #[.string ⟨nm.toArray⟩] 9)).grownBy w1 none := hg1
   have hgB := hgA.trans hgn
   have hbx := (hgn.block w.heap.size (by simp; omega) (by simp)).trans (((ga (w.alloc (.cells #[.int .i64 f, .int .i64 s, .string ⟨nm.toArray⟩, .int .i64 tk, .int .i64 tl, .int .i64 nn, .int .i64 mm, .slice a L c, .int .i64 at_] 37 (0, 0))) (.cells #[.string ⟨nm.toArray⟩] 9) none).block w.heap.size (by simp) (by simp)).trans (heap_alloc_new w _))
   have HS := ld (And.intro hgB (And.intro hbx ho1))
   clear hgA hgB hbx ho1 hg1 hgn HC1
   refine ld ?_
   go_wp2
   go_loopw [3, 4] (fun lv iv wr => ∃ (t : Nat) (va : Option Addr) (vn vc : Nat), t ≤ L ∧ iv = .int .i64 (t : Int) ∧ lv = .slice va vn vc ∧ Hid (vn = (N0 ++ Gram.Rf.rUL Nam.calls (ks.take t)).length ∧ w.grownBy wr none ∧ wr.heap[w.heap.size]? = some (.cells #[.int .i64 f, .int .i64 s, .string ⟨nm.toArray⟩, .int .i64 tk, .int .i64 tl, .int .i64 nn, .int .i64 mm, .slice a L c, .int .i64 at_] 37 (0, 0)) ∧ wr.ownsRow (w.heap.size + 1) 9 1 (.slice va vn vc) vn ((N0 ++ Gram.Rf.rUL Nam.calls (ks.take t)).map strV))) (fun _ i _ => L - (intOf i).toNat)
   case atStart => exact ⟨0, _, _, _, Nat.zero_le _, rfl, rfl, ld ⟨by simp [HNe.out, Gram.Rf.rUL], HS.out.1, HS.out.2.1, by simpa [HNe.out, Gram.Rf.rUL, strV] using HS.out.2.2⟩⟩
   case round =>
    obtain ⟨t, va, vn, vc, ht, rfl, rfl, HQ⟩ := hrel
    obtain ⟨hvn, q1, q2, q3⟩ := HQ.out
    clear HQ
    have p6 := cell_of_row wr _ 7 _ _ _ q2
    have hgr := HGr.out.trans q1
    by_cases hlt : t < L
    ·obtain ⟨k, hkt⟩ : ∃ k, ks[t]? = some k := ⟨_, List.getElem?_eq_getElem (by rw [← HL.out]; exact hlt)⟩
     obtain ⟨g, pa, pn, pc, rfl, hkk, hcs⟩ := expAt HK.out hkt
     have hsz := kid_lt hkt (f := f) (s := s) (nm := nm) (tk := tk) (tl := tl) (n := nn) (m := mm) (a := at_)
     have hzk := szL_at hkt
     have hc := HIH.out k (by have := HX.out; omega) wr pa pn pc hgr hkk (by have := HZ.out; omega)
     have hs3 := rUL_succ Nam.calls hkt
     have hl1 := Gram.Rf.rU_len Nam.calls k
     have hl2 := Nat.le_trans (Gram.Rf.rUL_len Nam.calls (ks.take t)) (szL_take ks t)
     obtain ⟨ys, hys⟩ : ∃ ys, ys = Gram.Rf.rU Nam.calls k := ⟨_, rfl⟩
     rw [← hys] at hc hs3 hl1
     obtain ⟨zs, hzs⟩ : ∃ zs, zs = N0 ++ Gram.Rf.rUL Nam.calls (ks.take t) := ⟨_, rfl⟩
     have hz2 : N0 ++ Gram.Rf.rUL Nam.calls (ks.take (t + 1)) = zs ++ ys := by rw [hs3, hzs, List.append_assoc]
     rw [← hzs] at q3 hvn
     have hzl : zs.length ≤ 1 + Gram.Rf.szL ks := by rw [hzs, List.length_append]; have := HN0.out; omega
     have HZ2 := ld hz2
     have HB := ld (show vn + ys.length ≤ 1000000 by have := HZ.out; omega)
     have HV := ld hvn
     clear hsz hzk hs3 hl1 hl2 hys hzs hz2 hzl hvn
     cases k with
     | mk f1 s1 nm1 tk1 tl1 n1 m1 ks1 a1 =>
     simp only [expCells] at hc hcs
     have v0 := hgr.cell (hcs 0 _ rfl) (by simp)
     have v1 := hgr.cell (hcs 1 _ rfl) (by simp)
     have v2 := hgr.cell (hcs 2 _ rfl) (by simp)
     have v3 := hgr.cell (hcs 3 _ rfl) (by simp)
     have v4 := hgr.cell (hcs 4 _ rfl) (by simp)
     have v5 := hgr.cell (hcs 5 _ rfl) (by simp)
     have v6 := hgr.cell (hcs 6 _ rfl) (by simp)
     have v7 := hgr.cell (hcs 7 _ rfl) (by simp)
     have v8 := hgr.cell (hcs 8 _ rfl) (by simp)
     rw [Nat.add_zero] at v0
     have HQ1 := ld (And.intro q1 (And.intro q2 q3))
     clear hcs hkk hgr q1 q2 q3 hkt
     go_wp2_with (go_at_call 15; refine hc.mono ?_; rintro e w2 ⟨v9, rfl, ho2, hg2⟩; obtain ⟨a9, c9, rfl⟩ := rowForm ho2; refine Hid.out ?_)
     have ho1 := HQ1.out.2.2.kept hg2 (by cases va <;> simp [Value.ownBlock])
     have hB2 : w.heap.size + 1 ≤ w2.heap.size := by have h1 := gl HQ1.out.2.1; have h2 := hg2.size; omega
     have HG2 := ld hg2
     clear v0 v1 v2 v3 v4 v5 v6 v7 v8 p6 hc hg2
     refine ld ?_
     go_wp2_with (at_builtin; refine wpList_append2 rfl _ _ rfl (w.heap.size + 1) wr.heap.size _ _ vn ys.length _ _ rfl rfl ho1 ho2 (str_one _) hB2 HB.out ?_; intro v' w3 ho3 hg3; obtain ⟨a3, c3, rfl⟩ := rowForm ho3; refine Hid.out ?_)
     have hlo := ho1.lt
     have hn3 : (Value.slice va vn vc).ownBlock ≠ some w.heap.size := fun e => by have := (hlo _ e).1; omega
     have hgw3 : w.grownBy w3 none := (HQ1.out.1.trans HG2.out).andThen hg3 (fun j e => .inl (by have := (hlo j e).1; omega))
     have hbx := (hg3.block _ (by omega) (fun e => hn3 e.symm)).trans ((HG2.out.block _ (gl HQ1.out.2.1) (by simp)).trans HQ1.out.2.1)
     have HF := ld (And.intro hgw3 (And.intro hbx ho3))
     clear hlo hn3 hgw3 hbx ho3 ho1 ho2 hg3 hB2
     refine ld ?_
     go_wp2
     exact ⟨⟨t + 1, a3, vn + ys.length, c3, by omega, by go_num, rfl, ld ⟨by rw [HZ2.out, List.length_append, HV.out], HF.out.1, HF.out.2.1, by rw [HZ2.out, List.map_append]; exact HF.out.2.2⟩⟩, by simp [intOf]; omega⟩
    ·have e : t = L := by omega
     subst e
     rw [List.take_of_length_le (by rw [← HL.out]; exact Nat.le_refl _)] at q3 hvn
     have HF := ld (And.intro q1 (And.intro q3 hvn))
     clear hgr q1 q2 q3 hvn
     go_wp2
     go_ret
     refine ⟨_, rfl, ?_, HF.out.1⟩
     rw [HRU.out, ← HF.out.2.2]
     obtain ⟨q3, hvn⟩ := HF.out.2
     exact q3.mono (by omega)
  ·rw [hpf] at hic
   have HNe : Hid (N0 = []) := ld (by rw [hN0, hpf]; rfl)
   clear hN0
   go_enter Tryz.func15, Tryz.ntmps15
   go_wp2_with (go_at_call 24; refine (hic _).mono ?_; rintro e w1 ⟨rfl, rfl⟩)
   go_loopw [3, 4] (fun lv iv wr => ∃ (t : Nat) (va : Option Addr) (vn vc : Nat), t ≤ L ∧ iv = .int .i64 (t : Int) ∧ lv = .slice va vn vc ∧ Hid (vn = (N0 ++ Gram.Rf.rUL Nam.calls (ks.take t)).length ∧ w.grownBy wr none ∧ wr.heap[w.heap.size]? = some (.cells #[.int .i64 f, .int .i64 s, .string ⟨nm.toArray⟩, .int .i64 tk, .int .i64 tl, .int .i64 nn, .int .i64 mm, .slice a L c, .int .i64 at_] 37 (0, 0)) ∧ wr.ownsRow (w.heap.size + 1) 9 1 (.slice va vn vc) vn ((N0 ++ Gram.Rf.rUL Nam.calls (ks.take t)).map strV))) (fun _ i _ => L - (intOf i).toNat)
   case atStart => exact ⟨0, _, _, _, Nat.zero_le _, rfl, rfl, ld ⟨by simp [HNe.out, Gram.Rf.rUL], HG1.out, heap_alloc_new w _, by simpa [HNe.out, Gram.Rf.rUL] using World.ownsRow_nil _ _ _ _⟩⟩
   case round =>
    obtain ⟨t, va, vn, vc, ht, rfl, rfl, HQ⟩ := hrel
    obtain ⟨hvn, q1, q2, q3⟩ := HQ.out
    clear HQ
    have p6 := cell_of_row wr _ 7 _ _ _ q2
    have hgr := HGr.out.trans q1
    by_cases hlt : t < L
    ·obtain ⟨k, hkt⟩ : ∃ k, ks[t]? = some k := ⟨_, List.getElem?_eq_getElem (by rw [← HL.out]; exact hlt)⟩
     obtain ⟨g, pa, pn, pc, rfl, hkk, hcs⟩ := expAt HK.out hkt
     have hsz := kid_lt hkt (f := f) (s := s) (nm := nm) (tk := tk) (tl := tl) (n := nn) (m := mm) (a := at_)
     have hzk := szL_at hkt
     have hc := HIH.out k (by have := HX.out; omega) wr pa pn pc hgr hkk (by have := HZ.out; omega)
     have hs3 := rUL_succ Nam.calls hkt
     have hl1 := Gram.Rf.rU_len Nam.calls k
     have hl2 := Nat.le_trans (Gram.Rf.rUL_len Nam.calls (ks.take t)) (szL_take ks t)
     obtain ⟨ys, hys⟩ : ∃ ys, ys = Gram.Rf.rU Nam.calls k := ⟨_, rfl⟩
     rw [← hys] at hc hs3 hl1
     obtain ⟨zs, hzs⟩ : ∃ zs, zs = N0 ++ Gram.Rf.rUL Nam.calls (ks.take t) := ⟨_, rfl⟩
     have hz2 : N0 ++ Gram.Rf.rUL Nam.calls (ks.take (t + 1)) = zs ++ ys := by rw [hs3, hzs, List.append_assoc]
     rw [← hzs] at q3 hvn
     have hzl : zs.length ≤ 1 + Gram.Rf.szL ks := by rw [hzs, List.length_append]; have := HN0.out; omega
     have HZ2 := ld hz2
     have HB := ld (show vn + ys.length ≤ 1000000 by have := HZ.out; omega)
     have HV := ld hvn
     clear hsz hzk hs3 hl1 hl2 hys hzs hz2 hzl hvn
     cases k with
     | mk f1 s1 nm1 tk1 tl1 n1 m1 ks1 a1 =>
     simp only [expCells] at hc hcs
     have v0 := hgr.cell (hcs 0 _ rfl) (by simp)
     have v1 := hgr.cell (hcs 1 _ rfl) (by simp)
     have v2 := hgr.cell (hcs 2 _ rfl) (by simp)
     have v3 := hgr.cell (hcs 3 _ rfl) (by simp)
     have v4 := hgr.cell (hcs 4 _ rfl) (by simp)
     have v5 := hgr.cell (hcs 5 _ rfl) (by simp)
     have v6 := hgr.cell (hcs 6 _ rfl) (by simp)
     have v7 := hgr.cell (hcs 7 _ rfl) (by simp)
     have v8 := hgr.cell (hcs 8 _ rfl) (by simp)
     rw [Nat.add_zero] at v0
     have HQ1 := ld (And.intro q1 (And.intro q2 q3))
     clear hcs hkk hgr q1 q2 q3 hkt
     go_wp2_with (go_at_call 15; refine hc.mono ?_; rintro e w2 ⟨v9, rfl, ho2, hg2⟩; obtain ⟨a9, c9, rfl⟩ := rowForm ho2; refine Hid.out ?_)
     have ho1 := HQ1.out.2.2.kept hg2 (by cases va <;> simp [Value.ownBlock])
     have hB2 : w.heap.size + 1 ≤ w2.heap.size := by have h1 := gl HQ1.out.2.1; have h2 := hg2.size; omega
     have HG2 := ld hg2
     clear v0 v1 v2 v3 v4 v5 v6 v7 v8 p6 hc hg2
     refine ld ?_
     go_wp2_with (at_builtin; refine wpList_append2 rfl _ _ rfl (w.heap.size + 1) wr.heap.size _ _ vn ys.length _ _ rfl rfl ho1 ho2 (str_one _) hB2 HB.out ?_; intro v' w3 ho3 hg3; obtain ⟨a3, c3, rfl⟩ := rowForm ho3; refine Hid.out ?_)
     have hlo := ho1.lt
     have hn3 : (Value.slice va vn vc).ownBlock ≠ some w.heap.size := fun e => by have := (hlo _ e).1; omega
     have hgw3 : w.grownBy w3 none := (HQ1.out.1.trans HG2.out).andThen hg3 (fun j e => .inl (by have := (hlo j e).1; omega))
     have hbx := (hg3.block _ (by omega) (fun e => hn3 e.symm)).trans ((HG2.out.block _ (gl HQ1.out.2.1) (by simp)).trans HQ1.out.2.1)
     have HF := ld (And.intro hgw3 (And.intro hbx ho3))
     clear hlo hn3 hgw3 hbx ho3 ho1 ho2 hg3 hB2
     refine ld ?_
     go_wp2
     exact ⟨⟨t + 1, a3, vn + ys.length, c3, by omega, by go_num, rfl, ld ⟨by rw [HZ2.out, List.length_append, HV.out], HF.out.1, HF.out.2.1, by rw [HZ2.out, List.map_append]; exact HF.out.2.2⟩⟩, by simp [intOf]; omega⟩
    ·have e : t = L := by omega
     subst e
     rw [List.take_of_length_le (by rw [← HL.out]; exact Nat.le_refl _)] at q3 hvn
     have HF := ld (And.intro q1 (And.intro q3 hvn))
     clear hgr q1 q2 q3 hvn
     go_wp2
     go_ret
     refine ⟨_, rfl, ?_, HF.out.1⟩
     rw [HRU.out, ← HF.out.2.2]
     obtain ⟨q3, hvn⟩ := HF.out.2
     exact q3.mono (by omega)
open Go.RowKit Go.Maps Go.WideMaps Go.Shelf
attribute [local go_sem] Oper.semAt_some
theorem own_row {B B0 n : Nat} {e : TypeId} {z : Nat} {v : Value} {xs : List Value} {W W' : World} {row : Option Nat} (h : W.ownsRow B e z v n xs) (hg : W.grownBy W' row) (hr : ∀ r, row = some r → B0 ≤ r ∧ ∃ o : Obj, W.heap[r]? = some o ∧ o.isCells = false) : W'.ownsRow B e z v n xs := by
 refine h.kept hg ?_
 rcases h.2 with ⟨rfl, _⟩ | ⟨g, cap, cur, rfl, _, hh, _⟩
 ·exact .inl rfl
 ·refine .inr (fun e => ?_)
  obtain ⟨_, o, ho, hc⟩ := hr g e.symm
  rw [hh] at ho
  cases ho
  cases hc
def nms {w0 : World} {pr : Gram.Exp → Bool} (p : Int → Bool) (l : List (EV w0 pr)) : List (List UInt8) := ((l.map EV.x).filter fun y => p y.form).map Gram.Exp.name
theorem nms_yes {w0 : World} {pr : Gram.Exp → Bool} {p : Int → Bool} (l : List (EV w0 pr)) (z : EV w0 pr) (h : p z.x.form = true) : nms p (l ++ [z]) = nms p l ++ [z.x.name] := by simp [nms, h]
theorem nms_no {w0 : World} {pr : Gram.Exp → Bool} {p : Int → Bool} (l : List (EV w0 pr)) (z : EV w0 pr) (h : p z.x.form = false) : nms p (l ++ [z]) = nms p l := by simp [nms, h]
theorem nms_len {w0 : World} {pr : Gram.Exp → Bool} (p : Int → Bool) (l : List (EV w0 pr)) : (nms p l).length ≤ l.length := by
 unfold nms
 rw [List.length_map]
 exact Nat.le_trans (List.length_filter_le _ _) (by simp)
set_option maxRecDepth 100000 in
theorem nmUses_any (w0 : World) (pr : Gram.Exp → Bool) (y : EV w0 pr) (w : World) (hg : w0.grownBy w none) (hN : (Nam.parts y.x).length ≤ 100000) :
  Calls Tryz.prog 21 (y.enc ++ #[.func (.func 22) #[] #[]]) w fun e w' => ∃ v, e = .returned v ∧ w'.ownsRow w.heap.size 9 1 v (((Nam.parts y.x).filter fun z => Nam.uses z.form).map Gram.Exp.name).length ((((Nam.parts y.x).filter fun z => Nam.uses z.form).map Gram.Exp.name).map strV) ∧ w.grownBy w' none := by
 have hdd : ∀ k : Nat, (Fence.wide.depth.isSome = true → 1 ≤ k) := fun k h => by cases h
 obtain ⟨it, hit, hz, hsz, hby⟩ := infoP info_string
 obtain ⟨y, hy⟩ : ∃ z : EV w0 pr, z = y := ⟨_, rfl⟩
 rw [← hy] at hN ⊢
 have hst := fun n Bt W => parts_stops w0 pr y n Bt W
 obtain ⟨x, hx⟩ : ∃ x, x = y.x := ⟨_, rfl⟩
 have hye : y.enc = #[.agg (expCells x (.slice y.a y.n y.c)).toArray] := by rw [hx]; rfl
 rw [hye]
 have hpt := parts_any x (.slice y.a y.n y.c)
 rw [← hx] at hst hN ⊢
 generalize y.a = a at hst hpt ⊢
 generalize y.n = L at hst hpt ⊢
 generalize y.c = cap at hst hpt ⊢
 clear hye hx hy y
 cases x with
 | mk f s nm tk tl nn mm ks at_ =>
 obtain ⟨X, hX⟩ : ∃ X, X = Gram.Exp.mk f s nm tk tl nn mm ks at_ := ⟨_, rfl⟩
 rw [← hX] at hst hN ⊢
 simp only [hX, expCells] at hst hpt ⊢
 rw [← hX] at hst ⊢
 have HST := ld hst
 have HN := ld hN
 clear hst hX hN
 refine (callsIn_wide (n := 9)).1 ?_
 refine callsIn_of_wp_marks Tryz.func21 rfl trivial ?_ rfl
 simp only [Tryz.ntmps21, List.size_toArray, List.length_cons, List.length_nil, Nat.reduceAdd, Nat.reduceSub, Array.replicate_succ, Array.replicate_zero, List.push_toArray, List.append_toArray, List.nil_append, List.cons_append]
 gi_wp2_with (refine ⟨trivial, ?_⟩; gi_at_call 25; refine (callsIn_wide.2 (hpt _)).mono ?_; rintro e w1 ⟨rfl, rfl⟩; refine Hid.out ?_)
 obtain ⟨bx, hbx⟩ : ∃ bx : Obj, bx = .cells #[.int .i64 f, .int .i64 s, .string ⟨nm.toArray⟩, .int .i64 tk, .int .i64 tl, .int .i64 nn, .int .i64 mm, .slice a L cap, .int .i64 at_] 37 (0, 0) := ⟨_, rfl⟩
 obtain ⟨fx, hfx⟩ : ∃ fx : Obj, fx = .cells #[.func (.func 22) #[] #[]] 51 (0, 0) := ⟨_, rfl⟩
 obtain ⟨W0, hW0⟩ : ∃ W0, W0 = (((w.alloc bx).alloc fx).alloc (.cells #[.slice none 0 0] 32)).alloc bx := ⟨_, rfl⟩
 have hg0 : w.grownBy W0 none := by rw [hW0]; exact galloc (galloc (galloc (ga w _ none) _) _) _
 have hsz0 : W0.heap.size = w.heap.size + 1 + 1 + 1 + 1 := by rw [hW0]; simp
 have hf0 : W0.heap[w.heap.size + 1]? = some fx := by
  have e := heap_alloc_new (w.alloc bx) fx
  rw [World.size_alloc] at e
  rw [hW0]; exact ((galloc (ga ((w.alloc bx).alloc fx) (.cells #[.slice none 0 0] 32) none) bx).block _ (by simp) (by simp)).trans e
 have hr0 : W0.heap[w.heap.size + 1 + 1]? = some (.cells #[.slice none 0 0] 32) := by
  have e := heap_alloc2_old ((w.alloc bx).alloc fx) (.cells #[.slice none 0 0] 32) bx
  rw [World.size_alloc, World.size_alloc] at e
  rw [hW0]; exact e
 have hb0 : W0.heap[w.heap.size + 1 + 1 + 1]? = some bx := by
  have e := heap_alloc2_new ((w.alloc bx).alloc fx) (.cells #[.slice none 0 0] 32) bx
  rw [World.size_alloc, World.size_alloc] at e
  rw [hW0]; exact e
 have hst := HST.out 8 (w.heap.size + 1 + 1 + 1) W0 (hg.trans hg0) (by rw [hb0, hbx]; rfl)
 rw [hfx] at hf0
 rw [hbx, hfx] at hW0
 simp only [expO]
 rw [← hW0]
 refine ld ?_
 have HW := ld hW0
 have hgs := hg.size
 clear hW0 hbx hb0 hpt HST bx hfx fx
 gi_wp2
 refine wpIn_rangeFunc_ownH rfl (by omega) (gf := 32) (lb := #[.pointer (some ⟨w.heap.size + 1 + 1 + 1, 0, none⟩)]) rfl trivial (enters_of Tryz.func32 (by kernel_rfl) rfl) hst (fun h k => h.trans k) (fun W l o o' hl h hc _ => KpC.put W l o o' (by omega) h hc) (Below.refl _ _) (fun _ => rfl)
  (fun (pre : List (EV w0 pr)) W => w.grownBy W none ∧ W.heap[w.heap.size + 1]? = some (.cells #[.func (.func 22) #[] #[]] 51 (0, 0)) ∧ ∃ va vn vc, vn = (nms Nam.uses pre).length ∧ W.heap[w.heap.size + 1 + 1]? = some (.cells #[.slice va vn vc] 32 (0, 0)) ∧ W.ownsRow (w.heap.size + 1 + 1 + 1) 9 1 (.slice va vn vc) vn ((nms Nam.uses pre).map strV))
  (fun c (pre : List (EV w0 pr)) W => False)
  (fun s A B row hs hgr hr => by
   obtain ⟨h1, h2, va, vn, vc, h3, h4, h5⟩ := hs
   exact ⟨own_grown h1 (by omega) hgr hr, own_cells h2 hgr hr, va, vn, vc, h3, own_cells h4 hgr hr, own_row h5 hgr hr⟩)
  (fun c s A B row hs hgr hr => hs)
  ⟨hg0, hf0, _, _, _, rfl, hr0, World.ownsRow_nil _ _ _ _⟩
  (fun z a' W => ∃ Bx, W.heap[Bx]? = some (expO (expCells z.x (.slice z.a z.n z.c))) ∧ a' = { tmps := #[.agg #[.int .i64 f, .int .i64 s, .string ⟨nm.toArray⟩, .int .i64 tk, .int .i64 tl, .int .i64 nn, .int .i64 mm, .slice a L cap, .int .i64 at_], .func (.func 22) #[] #[], .pointer (some ⟨w.heap.size, 0, none⟩), .pointer (some ⟨w.heap.size + 1, 0, none⟩), .slice none 0 0, .pointer (some ⟨w.heap.size + 1 + 1, 0, none⟩), .pointer (some ⟨Bx, 0, none⟩), .agg #[.int .i64 f, .int .i64 s, .string ⟨nm.toArray⟩, .int .i64 tk, .int .i64 tl, .int .i64 nn, .int .i64 mm, .slice a L cap, .int .i64 at_], .func (.func 32) #[] #[.pointer (some ⟨w.heap.size + 1 + 1 + 1, 0, none⟩)], .agg (expCells z.x (.slice z.a z.n z.c)).toArray, undef, undef, undef, undef, undef, undef, undef, undef, undef, undef], defers := [] })
  (fun z a' s A B row hs hgr hr => by obtain ⟨Bx, h1, h2⟩ := hs; exact ⟨Bx, own_cells h1 hgr hr, h2⟩) ?assign ?body ?done ?stop
 case assign =>
  rintro l pre z W K ⟨h1, h2, va, vn, vc, h3, h4, h5⟩ hK
  obtain ⟨zx, za, zn, zc, zh, zp⟩ := z
  cases zx with
  | mk f1 s1 nm1 tk1 tl1 n1 m1 ks1 a1 =>
  simp only [EV.enc, expCells] at hK ⊢
  simp
  gi_wp2
  have hga := fun o => ga W o none
  exact hK _ _ ((KeepsOthers.alloc _ _).from _) (KpC.of0 (ga W _ none)) ⟨galloc h1 _, ((hga _).block _ (gl h2) (by simp)).trans h2, va, vn, vc, h3, ((hga _).block _ (gl h4) (by simp)).trans h4, h5.alloc _⟩ ⟨W.heap.size, heap_alloc_new W _, rfl⟩
 case body =>
  rintro l pre z a' W hl ⟨rr, hrr⟩ ⟨h1, h2, va, vn, vc, h3, h4, h5⟩ ⟨Bx, hBx, rfl⟩ hlt
  have hrm := uses_any z.x.form
  have hyes := nms_yes (p := Nam.uses) pre z
  have hno := nms_no (p := Nam.uses) pre z
  have hlen := nms_len Nam.uses pre
  obtain ⟨zx, za, zn, zc, zh, zp⟩ := z
  cases zx with
  | mk f1 s1 nm1 tk1 tl1 n1 m1 ks1 a1 =>
  unfold expO at hBx
  simp only [expCells, Gram.Exp.form, Gram.Exp.name] at hBx hrm hyes hno ⊢
  have u0 := cell_of_row W _ 0 _ _ _ hBx
  have u2 := cell_of_row W _ 2 _ _ _ hBx
  have g0 := cell_of_row W _ 0 _ _ _ h2
  have v0 := cell_of_row W _ 0 _ _ _ h4
  have HBn := ld (show vn + 1 ≤ 1000000 by have := HN.out; omega)
  cases hq : Nam.uses f1 with
  | false =>
   rw [hq] at hrm
   have e9 := hno hq
   have HI := ld (And.intro h1 (And.intro h2 (And.intro h3 (And.intro h4 h5))))
   have HE := ld e9
   clear hyes hno hBx h1 h2 h3 h4 h5 e9 hlen
   gi_wp2_with (refine ⟨trivial, ?_⟩; gi_at_call 22; refine (CallsIn.inRound l (callsIn_wide.2 (hrm _))).mono ?_; rintro e w2 ⟨rfl, hw2⟩; obtain rfl := hw2.symm)
   exact ⟨KeepsFrom.refl _ _, KpC.of0 (World.grownBy.refl _ _), HI.out.1, HI.out.2.1, va, vn, vc, by rw [HE.out]; exact HI.out.2.2.1, HI.out.2.2.2.1, by rw [HE.out]; exact HI.out.2.2.2.2⟩
  | true =>
   rw [hq] at hrm
   have e9 := hyes hq
   have HE := ld e9
   have HI := ld (And.intro h1 (And.intro h2 (And.intro h3 (And.intro h4 h5))))
   have ho := h5.alloc (.cells #[.string ⟨nm1.toArray⟩] 9)
   have HC1 := ld (cell_one_new W (.string ⟨nm1.toArray⟩) 9)
   have hbs : w.heap.size + 1 + 1 + 1 ≤ (W.alloc (.cells #[.string ⟨nm1.toArray⟩] 9)).heap.size := by have := gl h4; simp; omega
   clear hyes hno hBx h1 h2 h3 h4 h5 e9 hlen
   gi_wp2_with (first | (refine ⟨trivial, ?_⟩; gi_at_call 22; refine (CallsIn.inRound l (callsIn_wide.2 (hrm _))).mono ?_; rintro e w2 ⟨rfl, hw2⟩; obtain rfl := hw2.symm) | (gi_at_builtin; refine wpListIn_append_own _ rfl _ _ 32 rfl (w.heap.size + 1 + 1 + 1) 9 it _ 1 16 Tryz.underlying32 hit hz hsz hby rfl (by decide) _ vn _ rfl ho ⟨W.heap.size, 0, none⟩ 1 1 [.string ⟨nm1.toArray⟩] rfl rfl HC1.out (by simp [Value.oneCell']) (by have := HBn.out; unfold maxLen; omega) (by have := HBn.out; omega) hbs ?_; intro v' w3 ho3 hg3 _; obtain ⟨a3, c3, rfl⟩ := rowForm ho3; refine Hid.out ?_))
   have hgn : (W.alloc (.cells #[.string ⟨nm1.toArray⟩] 9)).grownBy w3 (Value.slice va vn vc).ownBlock := hg3
   have hga := ga W (.cells #[.string ⟨nm1.toArray⟩] 9) none
   have hlo := ho.lt
   have hl4 := gl HI.out.2.2.2.1
   have hno : ∀ k, k ≤ w.heap.size + 1 + 1 → some k ≠ (Value.slice va vn vc).ownBlock := fun k hk e => by have := (hlo k e.symm).1; omega
   have h4' := (hgn.block _ (by simp; omega) (hno _ (Nat.le_refl _))).trans ((hga.block _ hl4 (by simp)).trans HI.out.2.2.2.1)
   have h2' := (hgn.block _ (by simp; omega) (hno _ (by omega))).trans ((hga.block _ (gl HI.out.2.1) (by simp)).trans HI.out.2.1)
   have c4 := cell_of_row w3 _ 0 _ _ _ h4'
   have d4 := frozen_of_row w3 _ 0 _ _ h4'
   have hcl : ∀ (j : Nat) (o : Obj), (Value.slice va vn vc).ownBlock = some j → (W.alloc (.cells #[.string ⟨nm1.toArray⟩] 9)).heap[j]? = some o → ∃ cur, o = .cells cur 9 (0, 0) := by
    intro j o e hj
    rcases ho.2 with ⟨e0, _⟩ | ⟨g, cp, cur, e0, _, hh, _⟩
    ·rw [e0] at e; cases e
    ·rw [e0] at e; cases e; rw [hh] at hj; cases hj; exact ⟨cur, rfl⟩
   have hgw := (HI.out.1.trans hga).andThen hgn (fun j e => .inl (by have := (hlo j e).1; omega))
   have hs4 := grown_set w3 ⟨w.heap.size + 1 + 1, 0, none⟩ (.slice a3 (vn + 1) c3)
   have hko : KeepsOthers W (w3.setCell ⟨w.heap.size + 1 + 1, 0, none⟩ (.slice a3 (vn + 1) c3)) := ((KeepsOthers.alloc W _).trans (KeepsOthers.of_grownBy hgn (fun j o e hj => by obtain ⟨cur, rfl⟩ := hcl j o e hj; rfl))).trans (KeepsOthers.setCell _ _ _)
   have hgz : w.grownBy (w3.setCell ⟨w.heap.size + 1 + 1, 0, none⟩ (.slice a3 (vn + 1) c3)) none := hgw.andThen hs4 (fun j e => .inl (by cases e; show w.heap.size ≤ w.heap.size + 1 + 1; omega))
   have hkp : KpC w0 W (w3.setCell ⟨w.heap.size + 1 + 1, 0, none⟩ (.slice a3 (vn + 1) c3)) := by
    refine ⟨hko.size, fun k cs hk => ?_, fun _ => hg.trans hgz⟩
    have k1 := (hga.block k (gl hk) (by simp)).trans hk
    have k2 := (hgn.block k (gl k1) (fun e => by obtain ⟨cur, h9⟩ := hcl k _ e.symm k1; cases h9)).trans k1
    exact (hs4.block k (gl k2) (fun e => by cases e; rw [h4'] at k2; cases k2)).trans k2
   have h4z : (w3.setCell ⟨w.heap.size + 1 + 1, 0, none⟩ (.slice a3 (vn + 1) c3)).heap[w.heap.size + 1 + 1]? = some (.cells #[.slice a3 (vn + 1) c3] 32 (0, 0)) := by
    rw [heap_setCell_same w3 (w.heap.size + 1 + 1) 0 _ _ _ h4']
    rfl
   have h2z := (hs4.block _ (gl h2') (by simp)).trans h2'
   have h5z := ho3.kept hs4 (.inr (fun e => by have := (ho3.lt _ e).1; simp at this; omega))
   have HZ := ld (And.intro hko (And.intro hkp (And.intro hgz (And.intro h2z (And.intro h4z h5z)))))
   clear hko hkp hgz h2z h4z h5z hs4 hgw hcl h2' h4' hno hlo hga hgn hg3 ho3 ho hbs hl4
   refine ld ?_
   gi_wp2
   obtain ⟨k1, k2, k3, k4, k5, k6⟩ := HZ.out
   exact ⟨k1.from _, k2, k3, k4, a3, vn + 1, c3, by rw [HE.out, List.length_append, ← HI.out.2.2.1]; rfl, k5, by rw [HE.out, List.map_append]; exact k6⟩
 case done =>
  rintro D xs W hD hS ⟨h1, h2, va, vn, vc, h3, h4, h5⟩ hK
  have v0 := cell_of_row W _ 0 _ _ _ h4
  have HI := ld (And.intro h1 (And.intro h3 h5))
  clear h1 h2 h3 h4 h5
  gi_wp2
  refine ⟨by simp, .inl ⟨_, _, rfl, run_takeDeferred hK, ?_⟩⟩
  have hgp := grownBy_putObj' W D (.deferred none)
  have h5 := own_row (B0 := 0) HI.out.2.2 hgp (fun r e => by cases e; exact ⟨Nat.zero_le _, _, hK, rfl⟩)
  have hG : w.grownBy (W.putObj D (.deferred none)) none := HI.out.1.andThen hgp (fun j e => .inl (by cases e; omega))
  have hnm : nms Nam.uses xs = ((Nam.parts X).filter fun z => Nam.uses z.form).map Gram.Exp.name := by unfold nms; rw [hS]
  have h3 := HI.out.2.1
  rw [hnm] at h3 h5
  generalize (W.putObj D (.deferred none)) = Wz at h5 hG ⊢
  have HF := ld (And.intro h3 (And.intro (h5.mono (show w.heap.size ≤ w.heap.size + 1 + 1 + 1 by omega)) hG))
  clear h3 h5 hG hgp hnm
  simp [LeavesInM, LeavesIn, results, Tryz.results21, go_sem]
  refine ⟨?_, HF.out.2.2⟩
  have h8 := HF.out.2.1
  rw [HF.out.1, List.length_map, List.map_map] at h8
  rw [HF.out.1, List.length_map]
  exact h8
 case stop =>
  rintro D c pre W hD hSp h
  exact h.elim
set_option maxRecDepth 100000 in
theorem nmCalls_any (w0 : World) (pr : Gram.Exp → Bool) (y : EV w0 pr) (w : World) (hg : w0.grownBy w none) (hN : (Nam.parts y.x).length ≤ 100000) :
  Calls Tryz.prog 21 (y.enc ++ #[.func (.func 23) #[] #[]]) w fun e w' => ∃ v, e = .returned v ∧ w'.ownsRow w.heap.size 9 1 v (((Nam.parts y.x).filter fun z => Nam.calls z.form).map Gram.Exp.name).length ((((Nam.parts y.x).filter fun z => Nam.calls z.form).map Gram.Exp.name).map strV) ∧ w.grownBy w' none := by
 have hdd : ∀ k : Nat, (Fence.wide.depth.isSome = true → 1 ≤ k) := fun k h => by cases h
 obtain ⟨it, hit, hz, hsz, hby⟩ := infoP info_string
 obtain ⟨y, hy⟩ : ∃ z : EV w0 pr, z = y := ⟨_, rfl⟩
 rw [← hy] at hN ⊢
 have hst := fun n Bt W => parts_stops w0 pr y n Bt W
 obtain ⟨x, hx⟩ : ∃ x, x = y.x := ⟨_, rfl⟩
 have hye : y.enc = #[.agg (expCells x (.slice y.a y.n y.c)).toArray] := by rw [hx]; rfl
 rw [hye]
 have hpt := parts_any x (.slice y.a y.n y.c)
 rw [← hx] at hst hN ⊢
 generalize y.a = a at hst hpt ⊢
 generalize y.n = L at hst hpt ⊢
 generalize y.c = cap at hst hpt ⊢
 clear hye hx hy y
 cases x with
 | mk f s nm tk tl nn mm ks at_ =>
 obtain ⟨X, hX⟩ : ∃ X, X = Gram.Exp.mk f s nm tk tl nn mm ks at_ := ⟨_, rfl⟩
 rw [← hX] at hst hN ⊢
 simp only [hX, expCells] at hst hpt ⊢
 rw [← hX] at hst ⊢
 have HST := ld hst
 have HN := ld hN
 clear hst hX hN
 refine (callsIn_wide (n := 9)).1 ?_
 refine callsIn_of_wp_marks Tryz.func21 rfl trivial ?_ rfl
 simp only [Tryz.ntmps21, List.size_toArray, List.length_cons, List.length_nil, Nat.reduceAdd, Nat.reduceSub, Array.replicate_succ, Array.replicate_zero, List.push_toArray, List.append_toArray, List.nil_append, List.cons_append]
 gi_wp2_with (refine ⟨trivial, ?_⟩; gi_at_call 25; refine (callsIn_wide.2 (hpt _)).mono ?_; rintro e w1 ⟨rfl, rfl⟩; refine Hid.out ?_)
 obtain ⟨bx, hbx⟩ : ∃ bx : Obj, bx = .cells #[.int .i64 f, .int .i64 s, .string ⟨nm.toArray⟩, .int .i64 tk, .int .i64 tl, .int .i64 nn, .int .i64 mm, .slice a L cap, .int .i64 at_] 37 (0, 0) := ⟨_, rfl⟩
 obtain ⟨fx, hfx⟩ : ∃ fx : Obj, fx = .cells #[.func (.func 23) #[] #[]] 51 (0, 0) := ⟨_, rfl⟩
 obtain ⟨W0, hW0⟩ : ∃ W0, W0 = (((w.alloc bx).alloc fx).alloc (.cells #[.slice none 0 0] 32)).alloc bx := ⟨_, rfl⟩
 have hg0 : w.grownBy W0 none := by rw [hW0]; exact galloc (galloc (galloc (ga w _ none) _) _) _
 have hsz0 : W0.heap.size = w.heap.size + 1 + 1 + 1 + 1 := by rw [hW0]; simp
 have hf0 : W0.heap[w.heap.size + 1]? = some fx := by
  have e := heap_alloc_new (w.alloc bx) fx
  rw [World.size_alloc] at e
  rw [hW0]; exact ((galloc (ga ((w.alloc bx).alloc fx) (.cells #[.slice none 0 0] 32) none) bx).block _ (by simp) (by simp)).trans e
 have hr0 : W0.heap[w.heap.size + 1 + 1]? = some (.cells #[.slice none 0 0] 32) := by
  have e := heap_alloc2_old ((w.alloc bx).alloc fx) (.cells #[.slice none 0 0] 32) bx
  rw [World.size_alloc, World.size_alloc] at e
  rw [hW0]; exact e
 have hb0 : W0.heap[w.heap.size + 1 + 1 + 1]? = some bx := by
  have e := heap_alloc2_new ((w.alloc bx).alloc fx) (.cells #[.slice none 0 0] 32) bx
  rw [World.size_alloc, World.size_alloc] at e
  rw [hW0]; exact e
 have hst := HST.out 8 (w.heap.size + 1 + 1 + 1) W0 (hg.trans hg0) (by rw [hb0, hbx]; rfl)
 rw [hfx] at hf0
 rw [hbx, hfx] at hW0
 simp only [expO]
 rw [← hW0]
 refine ld ?_
 have HW := ld hW0
 have hgs := hg.size
 clear hW0 hbx hb0 hpt HST bx hfx fx
 gi_wp2
 refine wpIn_rangeFunc_ownH rfl (by omega) (gf := 32) (lb := #[.pointer (some ⟨w.heap.size + 1 + 1 + 1, 0, none⟩)]) rfl trivial (enters_of Tryz.func32 (by kernel_rfl) rfl) hst (fun h k => h.trans k) (fun W l o o' hl h hc _ => KpC.put W l o o' (by omega) h hc) (Below.refl _ _) (fun _ => rfl)
  (fun (pre : List (EV w0 pr)) W => w.grownBy W none ∧ W.heap[w.heap.size + 1]? = some (.cells #[.func (.func 23) #[] #[]] 51 (0, 0)) ∧ ∃ va vn vc, vn = (nms Nam.calls pre).length ∧ W.heap[w.heap.size + 1 + 1]? = some (.cells #[.slice va vn vc] 32 (0, 0)) ∧ W.ownsRow (w.heap.size + 1 + 1 + 1) 9 1 (.slice va vn vc) vn ((nms Nam.calls pre).map strV))
  (fun c (pre : List (EV w0 pr)) W => False)
  (fun s A B row hs hgr hr => by
   obtain ⟨h1, h2, va, vn, vc, h3, h4, h5⟩ := hs
   exact ⟨own_grown h1 (by omega) hgr hr, own_cells h2 hgr hr, va, vn, vc, h3, own_cells h4 hgr hr, own_row h5 hgr hr⟩)
  (fun c s A B row hs hgr hr => hs)
  ⟨hg0, hf0, _, _, _, rfl, hr0, World.ownsRow_nil _ _ _ _⟩
  (fun z a' W => ∃ Bx, W.heap[Bx]? = some (expO (expCells z.x (.slice z.a z.n z.c))) ∧ a' = { tmps := #[.agg #[.int .i64 f, .int .i64 s, .string ⟨nm.toArray⟩, .int .i64 tk, .int .i64 tl, .int .i64 nn, .int .i64 mm, .slice a L cap, .int .i64 at_], .func (.func 23) #[] #[], .pointer (some ⟨w.heap.size, 0, none⟩), .pointer (some ⟨w.heap.size + 1, 0, none⟩), .slice none 0 0, .pointer (some ⟨w.heap.size + 1 + 1, 0, none⟩), .pointer (some ⟨Bx, 0, none⟩), .agg #[.int .i64 f, .int .i64 s, .string ⟨nm.toArray⟩, .int .i64 tk, .int .i64 tl, .int .i64 nn, .int .i64 mm, .slice a L cap, .int .i64 at_], .func (.func 32) #[] #[.pointer (some ⟨w.heap.size + 1 + 1 + 1, 0, none⟩)], .agg (expCells z.x (.slice z.a z.n z.c)).toArray, undef, undef, undef, undef, undef, undef, undef, undef, undef, undef], defers := [] })
  (fun z a' s A B row hs hgr hr => by obtain ⟨Bx, h1, h2⟩ := hs; exact ⟨Bx, own_cells h1 hgr hr, h2⟩) ?assign ?body ?done ?stop
 case assign =>
  rintro l pre z W K ⟨h1, h2, va, vn, vc, h3, h4, h5⟩ hK
  obtain ⟨zx, za, zn, zc, zh, zp⟩ := z
  cases zx with
  | mk f1 s1 nm1 tk1 tl1 n1 m1 ks1 a1 =>
  simp only [EV.enc, expCells] at hK ⊢
  simp
  gi_wp2
  have hga := fun o => ga W o none
  exact hK _ _ ((KeepsOthers.alloc _ _).from _) (KpC.of0 (ga W _ none)) ⟨galloc h1 _, ((hga _).block _ (gl h2) (by simp)).trans h2, va, vn, vc, h3, ((hga _).block _ (gl h4) (by simp)).trans h4, h5.alloc _⟩ ⟨W.heap.size, heap_alloc_new W _, rfl⟩
 case body =>
  rintro l pre z a' W hl ⟨rr, hrr⟩ ⟨h1, h2, va, vn, vc, h3, h4, h5⟩ ⟨Bx, hBx, rfl⟩ hlt
  have hrm := calls_any z.x.form
  have hyes := nms_yes (p := Nam.calls) pre z
  have hno := nms_no (p := Nam.calls) pre z
  have hlen := nms_len Nam.calls pre
  obtain ⟨zx, za, zn, zc, zh, zp⟩ := z
  cases zx with
  | mk f1 s1 nm1 tk1 tl1 n1 m1 ks1 a1 =>
  unfold expO at hBx
  simp only [expCells, Gram.Exp.form, Gram.Exp.name] at hBx hrm hyes hno ⊢
  have u0 := cell_of_row W _ 0 _ _ _ hBx
  have u2 := cell_of_row W _ 2 _ _ _ hBx
  have g0 := cell_of_row W _ 0 _ _ _ h2
  have v0 := cell_of_row W _ 0 _ _ _ h4
  have HBn := ld (show vn + 1 ≤ 1000000 by have := HN.out; omega)
  cases hq : Nam.calls f1 with
  | false =>
   rw [hq] at hrm
   have e9 := hno hq
   have HI := ld (And.intro h1 (And.intro h2 (And.intro h3 (And.intro h4 h5))))
   have HE := ld e9
   clear hyes hno hBx h1 h2 h3 h4 h5 e9 hlen
   gi_wp2_with (refine ⟨trivial, ?_⟩; gi_at_call 23; refine (CallsIn.inRound l (callsIn_wide.2 (hrm _))).mono ?_; rintro e w2 ⟨rfl, hw2⟩; obtain rfl := hw2.symm)
   exact ⟨KeepsFrom.refl _ _, KpC.of0 (World.grownBy.refl _ _), HI.out.1, HI.out.2.1, va, vn, vc, by rw [HE.out]; exact HI.out.2.2.1, HI.out.2.2.2.1, by rw [HE.out]; exact HI.out.2.2.2.2⟩
  | true =>
   rw [hq] at hrm
   have e9 := hyes hq
   have HE := ld e9
   have HI := ld (And.intro h1 (And.intro h2 (And.intro h3 (And.intro h4 h5))))
   have ho := h5.alloc (.cells #[.string ⟨nm1.toArray⟩] 9)
   have HC1 := ld (cell_one_new W (.string ⟨nm1.toArray⟩) 9)
   have hbs : w.heap.size + 1 + 1 + 1 ≤ (W.alloc (.cells #[.string ⟨nm1.toArray⟩] 9)).heap.size := by have := gl h4; simp; omega
   clear hyes hno hBx h1 h2 h3 h4 h5 e9 hlen
   gi_wp2_with (first | (refine ⟨trivial, ?_⟩; gi_at_call 23; refine (CallsIn.inRound l (callsIn_wide.2 (hrm _))).mono ?_; rintro e w2 ⟨rfl, hw2⟩; obtain rfl := hw2.symm) | (gi_at_builtin; refine wpListIn_append_own _ rfl _ _ 32 rfl (w.heap.size + 1 + 1 + 1) 9 it _ 1 16 Tryz.underlying32 hit hz hsz hby rfl (by decide) _ vn _ rfl ho ⟨W.heap.size, 0, none⟩ 1 1 [.string ⟨nm1.toArray⟩] rfl rfl HC1.out (by simp [Value.oneCell']) (by have := HBn.out; unfold maxLen; omega) (by have := HBn.out; omega) hbs ?_; intro v' w3 ho3 hg3 _; obtain ⟨a3, c3, rfl⟩ := rowForm ho3; refine Hid.out ?_))
   have hgn : (W.alloc (.cells #[.string ⟨nm1.toArray⟩] 9)).grownBy w3 (Value.slice va vn vc).ownBlock := hg3
   have hga := ga W (.cells #[.string ⟨nm1.toArray⟩] 9) none
   have hlo := ho.lt
   have hl4 := gl HI.out.2.2.2.1
   have hno : ∀ k, k ≤ w.heap.size + 1 + 1 → some k ≠ (Value.slice va vn vc).ownBlock := fun k hk e => by have := (hlo k e.symm).1; omega
   have h4' := (hgn.block _ (by simp; omega) (hno _ (Nat.le_refl _))).trans ((hga.block _ hl4 (by simp)).trans HI.out.2.2.2.1)
   have h2' := (hgn.block _ (by simp; omega) (hno _ (by omega))).trans ((hga.block _ (gl HI.out.2.1) (by simp)).trans HI.out.2.1)
   have c4 := cell_of_row w3 _ 0 _ _ _ h4'
   have d4 := frozen_of_row w3 _ 0 _ _ h4'
   have hcl : ∀ (j : Nat) (o : Obj), (Value.slice va vn vc).ownBlock = some j → (W.alloc (.cells #[.string ⟨nm1.toArray⟩] 9)).heap[j]? = some o → ∃ cur, o = .cells cur 9 (0, 0) := by
    intro j o e hj
    rcases ho.2 with ⟨e0, _⟩ | ⟨g, cp, cur, e0, _, hh, _⟩
    ·rw [e0] at e; cases e
    ·rw [e0] at e; cases e; rw [hh] at hj; cases hj; exact ⟨cur, rfl⟩
   have hgw := (HI.out.1.trans hga).andThen hgn (fun j e => .inl (by have := (hlo j e).1; omega))
   have hs4 := grown_set w3 ⟨w.heap.size + 1 + 1, 0, none⟩ (.slice a3 (vn + 1) c3)
   have hko : KeepsOthers W (w3.setCell ⟨w.heap.size + 1 + 1, 0, none⟩ (.slice a3 (vn + 1) c3)) := ((KeepsOthers.alloc W _).trans (KeepsOthers.of_grownBy hgn (fun j o e hj => by obtain ⟨cur, rfl⟩ := hcl j o e hj; rfl))).trans (KeepsOthers.setCell _ _ _)
   have hgz : w.grownBy (w3.setCell ⟨w.heap.size + 1 + 1, 0, none⟩ (.slice a3 (vn + 1) c3)) none := hgw.andThen hs4 (fun j e => .inl (by cases e; show w.heap.size ≤ w.heap.size + 1 + 1; omega))
   have hkp : KpC w0 W (w3.setCell ⟨w.heap.size + 1 + 1, 0, none⟩ (.slice a3 (vn + 1) c3)) := by
    refine ⟨hko.size, fun k cs hk => ?_, fun _ => hg.trans hgz⟩
    have k1 := (hga.block k (gl hk) (by simp)).trans hk
    have k2 := (hgn.block k (gl k1) (fun e => by obtain ⟨cur, h9⟩ := hcl k _ e.symm k1; cases h9)).trans k1
    exact (hs4.block k (gl k2) (fun e => by cases e; rw [h4'] at k2; cases k2)).trans k2
   have h4z : (w3.setCell ⟨w.heap.size + 1 + 1, 0, none⟩ (.slice a3 (vn + 1) c3)).heap[w.heap.size + 1 + 1]? = some (.cells #[.slice a3 (vn + 1) c3] 32 (0, 0)) := by
    rw [heap_setCell_same w3 (w.heap.size + 1 + 1) 0 _ _ _ h4']
    rfl
   have h2z := (hs4.block _ (gl h2') (by simp)).trans h2'
   have h5z := ho3.kept hs4 (.inr (fun e => by have := (ho3.lt _ e).1; simp at this; omega))
   have HZ := ld (And.intro hko (And.intro hkp (And.intro hgz (And.intro h2z (And.intro h4z h5z)))))
   clear hko hkp hgz h2z h4z h5z hs4 hgw hcl h2' h4' hno hlo hga hgn hg3 ho3 ho hbs hl4
   refine ld ?_
   gi_wp2
   obtain ⟨k1, k2, k3, k4, k5, k6⟩ := HZ.out
   exact ⟨k1.from _, k2, k3, k4, a3, vn + 1, c3, by rw [HE.out, List.length_append, ← HI.out.2.2.1]; rfl, k5, by rw [HE.out, List.map_append]; exact k6⟩
 case done =>
  rintro D xs W hD hS ⟨h1, h2, va, vn, vc, h3, h4, h5⟩ hK
  have v0 := cell_of_row W _ 0 _ _ _ h4
  have HI := ld (And.intro h1 (And.intro h3 h5))
  clear h1 h2 h3 h4 h5
  gi_wp2
  refine ⟨by simp, .inl ⟨_, _, rfl, run_takeDeferred hK, ?_⟩⟩
  have hgp := grownBy_putObj' W D (.deferred none)
  have h5 := own_row (B0 := 0) HI.out.2.2 hgp (fun r e => by cases e; exact ⟨Nat.zero_le _, _, hK, rfl⟩)
  have hG : w.grownBy (W.putObj D (.deferred none)) none := HI.out.1.andThen hgp (fun j e => .inl (by cases e; omega))
  have hnm : nms Nam.calls xs = ((Nam.parts X).filter fun z => Nam.calls z.form).map Gram.Exp.name := by unfold nms; rw [hS]
  have h3 := HI.out.2.1
  rw [hnm] at h3 h5
  generalize (W.putObj D (.deferred none)) = Wz at h5 hG ⊢
  have HF := ld (And.intro h3 (And.intro (h5.mono (show w.heap.size ≤ w.heap.size + 1 + 1 + 1 by omega)) hG))
  clear h3 h5 hG hgp hnm
  simp [LeavesInM, LeavesIn, results, Tryz.results21, go_sem]
  refine ⟨?_, HF.out.2.2⟩
  have h8 := HF.out.2.1
  rw [HF.out.1, List.length_map, List.map_map] at h8
  rw [HF.out.1, List.length_map]
  exact h8
 case stop =>
  rintro D c pre W hD hSp h
  exact h.elim
theorem pUses_any (w0 : World) (pr : Gram.Exp → Bool) (y : EV w0 pr) (w : World) (hg : w0.grownBy w none) (hN : (Nam.parts y.x).length ≤ 100000) :
  Calls Tryz.prog 10 y.enc w fun e w' => ∃ v, e = .returned v ∧ w'.ownsRow w.heap.size 9 1 v (((Nam.parts y.x).filter fun z => Nam.uses z.form).map Gram.Exp.name).length ((((Nam.parts y.x).filter fun z => Nam.uses z.form).map Gram.Exp.name).map strV) ∧ w.grownBy w' none := by
 have hc := fun V (hV : w0.grownBy V none) => nmUses_any w0 pr y V hV hN
 generalize ((Nam.parts y.x).filter fun z => Nam.uses z.form).map Gram.Exp.name = R at hc ⊢
 unfold EV.enc at hc ⊢
 obtain ⟨⟨f, s, nm, tk, tl, nn, mm, ks, at_⟩, a, L, cap, yh, yp⟩ := y
 simp only [expCells] at hc ⊢
 have HG := ld hg
 clear hg hN yh yp
 go_enter Tryz.func10, Tryz.ntmps10
 go_wp2_with (go_at_call 21; refine (hc _ (HG.out.trans (ga w _ none))).mono ?_; rintro e w2 ⟨v, rfl, ho, hg2⟩; obtain ⟨va, vc, rfl⟩ := rowForm ho; refine Hid.out ?_)
 have HF := ld (And.intro (ho.mono (show w.heap.size ≤ _ by simp)) ((ga w _ none).trans hg2))
 clear ho hg2 hc
 refine ld ?_
 go_wp2
 go_ret
 exact ⟨_, rfl, HF.out.1, HF.out.2⟩
theorem pCalls_any (w0 : World) (pr : Gram.Exp → Bool) (y : EV w0 pr) (w : World) (hg : w0.grownBy w none) (hN : (Nam.parts y.x).length ≤ 100000) :
  Calls Tryz.prog 11 y.enc w fun e w' => ∃ v, e = .returned v ∧ w'.ownsRow w.heap.size 9 1 v (((Nam.parts y.x).filter fun z => Nam.calls z.form).map Gram.Exp.name).length ((((Nam.parts y.x).filter fun z => Nam.calls z.form).map Gram.Exp.name).map strV) ∧ w.grownBy w' none := by
 have hc := fun V (hV : w0.grownBy V none) => nmCalls_any w0 pr y V hV hN
 generalize ((Nam.parts y.x).filter fun z => Nam.calls z.form).map Gram.Exp.name = R at hc ⊢
 unfold EV.enc at hc ⊢
 obtain ⟨⟨f, s, nm, tk, tl, nn, mm, ks, at_⟩, a, L, cap, yh, yp⟩ := y
 simp only [expCells] at hc ⊢
 have HG := ld hg
 clear hg hN yh yp
 go_enter Tryz.func11, Tryz.ntmps11
 go_wp2_with (go_at_call 21; refine (hc _ (HG.out.trans (ga w _ none))).mono ?_; rintro e w2 ⟨v, rfl, ho, hg2⟩; obtain ⟨va, vc, rfl⟩ := rowForm ho; refine Hid.out ?_)
 have HF := ld (And.intro (ho.mono (show w.heap.size ≤ _ by simp)) ((ga w _ none).trans hg2))
 clear ho hg2 hc
 refine ld ?_
 go_wp2
 go_ret
 exact ⟨_, rfl, HF.out.1, HF.out.2⟩
open Go.RowKit Go.Maps Go.WideMaps
theorem rowCell {w : World} {B n t : Nat} {R : List (List UInt8)} {v : Value} (h : w.ownsRow B 9 1 v n (R.map strV)) {s : List UInt8} (hs : R[t]? = some s) : ∃ g c, v = .slice (some ⟨g, 0, none⟩) n c ∧ w.cell? ⟨g, t, none⟩ = some (.string ⟨s.toArray⟩) := by
 rcases h.2 with ⟨rfl, rfl⟩ | ⟨g, cap, cur, rfl, _, hh, _, _, _, ht⟩
 ·have h1 := h.1
  simp at h1
  rw [h1] at hs
  simp at hs
 ·refine ⟨g, cap, rfl, ?_⟩
  have h2 := h.cells (g := g) rfl t (strV s) (by rw [List.getElem?_map, hs]; rfl)
  simp [Addr.add, strV] at h2
  split at h2
  ·next e => subst e; exact h2
  ·exact h2
theorem same_any (w : World) (B1 B2 : Nat) (a1 a2 : Option Addr) (n c1 c2 : Nat) (R : List (List UInt8)) (hn : n = R.length) (hm : n ≤ 1000000) (h1 : w.ownsRow B1 9 1 (.slice a1 n c1) n (R.map strV)) (h2 : w.ownsRow B2 9 1 (.slice a2 n c2) n (R.map strV)) :
  Calls Tryz.prog 13 #[.slice a1 n c1, .slice a2 n c2] w fun e w' => e = .returned (.bool true) ∧ ∃ k, w' = w.drewN k := by
 have hb : ((n : Int) != (n : Int)) = false := by simp
 have HN := ld hn
 have H1 := ld h1
 have H2 := ld h2
 clear hn h1 h2
 go_enter Tryz.func13, Tryz.ntmps13
 go_wp2
 go_loopw [5] (fun iv wr => ∃ t : Nat, t ≤ n ∧ iv = .int .i64 (t : Int) ∧ Hid (∃ k, wr = w.drewN k)) (fun i _ => n - (intOf i).toNat)
 case atStart => exact ⟨0, Nat.zero_le _, rfl, ld ⟨0, rfl⟩⟩
 case round =>
  obtain ⟨t, ht, rfl, HK⟩ := hrel
  obtain ⟨k, hwk⟩ := HK.out
  have HW := ld hwk
  by_cases hlt : t < n
  ·obtain ⟨s, hs⟩ : ∃ s, R[t]? = some s := ⟨_, List.getElem?_eq_getElem (by rw [← HN.out]; exact hlt)⟩
   obtain ⟨g1, d1, e1, q1⟩ := rowCell H1.out hs
   obtain ⟨g2, d2, e2, q2⟩ := rowCell H2.out hs
   cases e1
   cases e2
   have q1' : wr.cell? ⟨g1, t, none⟩ = some (.string ⟨s.toArray⟩) := by rw [hwk]; exact q1
   have q2' : wr.cell? ⟨g2, t, none⟩ = some (.string ⟨s.toArray⟩) := by rw [hwk]; exact q2
   clear q1 q2 hs HK H1 H2 hwk
   go_wp2
   go_quiet (fail)
   go_wp2
   exact ⟨⟨t + 1, by omega, by go_num, ld ⟨_, by rw [HW.out]; exact World.drewN_drewN ..⟩⟩, by simp [intOf]; omega⟩
  ·have e : t = n := by omega
   subst e
   clear hwk
   go_wp2
   go_ret
   exact ⟨rfl, k, HW.out⟩
theorem wipe_any (w : World) (B : Nat) (a : Option Addr) (n c : Nat) (xs : List Value) (hm : n ≤ 1000000) (h : w.ownsRow B 9 1 (.slice a n c) n xs) :
  Calls Tryz.prog 12 #[.slice a n c] w fun e w' => e = .returned (.tuple #[]) ∧ w.grownBy w' (Value.slice a n c).ownBlock := by
 rcases h.2 with ⟨e, e0⟩ | ⟨g, cap, cur, e, _, hh, hnc, _, hcs, _⟩
 ·cases e
  go_enter Tryz.func12, Tryz.ntmps12
  go_wp2
  go_loopw [2] (fun iv wr => iv = .int .i64 0 ∧ wr = w) (fun i _ => 0)
  case atStart => exact ⟨rfl, rfl⟩
  case round =>
   obtain ⟨rfl, rfl⟩ := hrel
   go_wp2
   go_end0
   exact ⟨rfl, World.grownBy.refl _ _⟩
 ·cases e
  have HH := ld (And.intro hh hcs)
  clear h hh hcs
  go_enter Tryz.func12, Tryz.ntmps12
  go_wp2
  go_loopw [2] (fun iv wr => ∃ (t : Nat) (cu : Array Value), t ≤ n ∧ iv = .int .i64 (t : Int) ∧ Hid (w.grownBy wr (some g) ∧ wr.heap[g]? = some (.cells cu 9 (0, 0)) ∧ cu.size = c)) (fun i _ => n - (intOf i).toNat)
  case atStart => exact ⟨0, cur, Nat.zero_le _, rfl, ld ⟨World.grownBy.refl _ _, HH.out.1, by have := HH.out.2; omega⟩⟩
  case round =>
   obtain ⟨t, cu, ht, rfl, HQ⟩ := hrel
   obtain ⟨q1, q2, q3⟩ := HQ.out
   clear HQ HH
   by_cases hlt : t < n
   ·have hc := cell_of_row wr _ t _ _ _ q2
    have hd := frozen_of_row wr _ t _ _ q2
    obtain ⟨u, hu⟩ : ∃ u, cu[t]? = some u := ⟨_, Array.getElem?_eq_getElem (by omega)⟩
    rw [hu] at hc
    have hs := setCell_row q2 t (.string ⟨#[63]⟩)
    have HF := ld (And.intro (q1.trans (grown_set wr ⟨g, t, none⟩ (.string ⟨#[63]⟩))) (And.intro hs (show (cu.setIfInBounds t (.string ⟨#[63]⟩)).size = c by simpa using q3)))
    clear q1 q2 q3 hs hu
    go_wp2
    exact ⟨⟨t + 1, _, by omega, by go_num, HF⟩, by simp [intOf]; omega⟩
   ·have e : t = n := by omega
    subst e
    clear q2 q3
    go_wp2
    go_end0
    exact ⟨rfl, q1⟩
theorem prog5_any (s : ByteArray) (w : World) : Calls Tryz.prog 9 #[.string s] w fun e w' => w.grownBy w' none ∧
  ((∃ l a L c, Gram.Rf.parse s.data.toList = .ok l ∧ s.size ≤ 8000 ∧ e = .returned (.tuple #[.agg #[.slice a L c], .bool true]) ∧ RepC w' 0 [] (.l 31 6 (l.map nodeD)) (.slice a L c)) ∨ e = .returned (.tuple #[.agg #[.slice none 0 0], .bool false])) := by
 by_cases hs : s.size ≤ 8000
 ·cases hp : Gram.Rf.parse s.data.toList with
  | fuel => exact absurd hp (Gram.Rf.parse_any _)
  | ok l =>
   refine (prog5_ok hs hp w).mono ?_
   rintro e w' ⟨a, L, c, rfl, h1, h2⟩
   exact ⟨h2, .inl ⟨l, a, L, c, rfl, hs, rfl, RepC.mono (Nat.zero_le _) h1⟩⟩
  | bad p er =>
   have hpa := rparse_any s (w.alloc prE) (Gram.Rf.parse_any _)
   rw [hp] at hpa
   simp only [rpsPost] at hpa
   have hg0 := ga w prE none
   have hr0 := heap_alloc_new w prE
   have hs0 : (w.alloc prE).heap.size = w.heap.size + 1 := by simp
   have hd : decide ((8000 : Int) < (s.size : Int)) = false := by rw [decide_eq_false_iff_not]; omega
   have HG0 := ld hg0
   have HR0 := ld hr0
   unfold prE at hpa
   clear hp hg0 hr0
   go_enter Tryz.func9, Tryz.ntmps9
   go_wp2_with (first | (go_at_call 20; refine hpa.mono ?_; rintro e w1 ⟨rfl, her, hg1⟩; refine Hid.out ?_))
   rw [show (Obj.cells #[Value.slice none 0 0] 25) = prE from rfl] at hg1
   have hga := ga w1 (.cells #[.slice none 0 0] 25 (0, 0)) none
   have hgx : (w.alloc prE).grownBy (w1.alloc (.cells #[.slice none 0 0] 25 (0, 0))) none := hg1.trans hga
   have hce := (hgx.block w.heap.size (by omega) (by simp)).trans HR0.out
   have z0 := cell_of_row _ _ 0 _ _ _ (heap_alloc_new w1 (.cells #[.slice none 0 0] 25 (0, 0)))
   have hbe : (er == 0) = false := by rw [beq_eq_false_iff_ne]; exact her
   have HK := ld (HG0.out.trans hgx)
   clear hg1 hga hgx hpa HR0 her
   refine ld ?_
   go_wp2_with (with_reducible refine hold_st 2 ?_)
   refine ld ?_
   refine sg hce ?_
   intro w7 hh7 hg7
   go_wp2
   (try simp only [Exit.inBlock, Exit.then])
   refine bodyPost_ret (results_cell_tmp rfl _ _ w.heap.size 25 _ (0, 0) _ _ rfl rfl hh7 Tryz.underlying25 rfl (by kernel_rfl)) rfl ?_
   exact ⟨HK.out.andThen hg7 (fun j e => .inl (by cases e; exact Nat.le_refl _)), .inr rfl⟩
 ·have hd : decide ((8000 : Int) < (s.size : Int)) = true := by rw [decide_eq_true_iff]; omega
  have HG0 := ld (ga w prE none)
  have hce := heap_alloc_new w prE
  unfold prE at hce
  go_enter Tryz.func9, Tryz.ntmps9
  go_wp2_with (with_reducible refine hold_st 2 ?_)
  refine ld ?_
  refine sg hce ?_
  intro w7 hh7 hg7
  go_wp2
  (try simp only [Exit.inBlock, Exit.then])
  refine bodyPost_ret (results_cell_tmp rfl _ _ w.heap.size 25 _ (0, 0) _ _ rfl rfl hh7 Tryz.underlying25 rfl (by kernel_rfl)) rfl ?_
  exact ⟨HG0.out.andThen hg7 (fun j e => .inl (by cases e; exact Nat.le_refl _)), .inr rfl⟩
end Go.Proofs.YtonafedbehnneaaGreat
