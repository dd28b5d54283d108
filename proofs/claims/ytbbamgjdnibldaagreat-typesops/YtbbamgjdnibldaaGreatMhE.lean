/- My texts RpK GrT GrU GrV GrW GrX GrY GrZ GsA RpL RpLa RpLb RpLc RpLd RpLe RpLf RpLg, joined. -/
import Derived.Test.YtbbamgjdnibldaaGreatMhD
import Derived.Deep.MidRow
set_option linter.unusedVariables false
set_option linter.unusedSimpArgs false
set_option linter.unnecessarySimpa false
set_option linter.unusedSectionVars false
set_option maxHeartbeats 12800000
set_option maxRecDepth 20000
namespace Go.Proofs.YtbbamgjdnibldaaGreat
open Go.RowKit Go.Maps Go.WideMaps
section
variable (b g cap : Nat) (T : List Lex.Tk) (s : Gram.Rf.St)
theorem redge_any (w : World) (h : Rp w b g cap T s) :
  Calls Tryz.prog 164 #[.pointer (some ⟨b, 0, none⟩)] w fun e w' => e = .returned (.agg #[.string ⟨(Gram.Rf.edge T s).1.name.toArray⟩, .bool (Gram.Rf.edge T s).1.on]) ∧ Rp w' b g cap T (Gram.Rf.edge T s).2 ∧ w.grownBy w' (some b) := by
 have hbw := h.bl
 have HH := ld h
 have hP0 := h.alloc edg0
 have hM := rmaybe_any b g cap T s ⟨#[110, 111, 116]⟩ _ hP0
 rw [show ((⟨#[110, 111, 116]⟩ : ByteArray)).data.toList = [110, 111, 116] from rfl] at hM
 unfold Gram.Rf.edge
 simp only
 generalize Gram.Rf.maybe T [110, 111, 116] s = s1 at *
 generalize Gram.Rf.is T [110, 111, 116] s = q at *
 have HN : Hid (∀ wx, Rp wx b g cap T s1 → Calls Tryz.prog 100 #[.pointer (some ⟨b, 0, none⟩)] wx fun e w' => e = .returned (.string ⟨(Gram.Rf.name T s1).1.toArray⟩) ∧ Rp w' b g cap T (Gram.Rf.name T s1).2 ∧ wx.grownBy w' (some b)) := ld (fun wx hx => rname_any b g cap T s1 wx hx)
 generalize (Gram.Rf.name T s1).1 = nm at *
 generalize (Gram.Rf.name T s1).2 = s2 at *
 clear h hP0
 go_enter Tryz.func164, Tryz.ntmps164
 go_wp2_with (go_at_call 102; refine hM.mono ?_; rintro e w1 ⟨rfl, hP1, hg1⟩; refine Hid.out ?_)
 have hN := HN.out _ hP1
 refine ld ?_
 go_wp2_with (go_at_call 100; refine hN.mono ?_; rintro e w2 ⟨rfl, hP2, hg2⟩; refine Hid.out ?_)
 have hgx := hg1.trans hg2
 refine ld ?_
 go_wp2_with (with_reducible refine hold_st 2 ?_)
 refine sg ((hgx.block w.heap.size (by simp) (by simp; omega)).trans (heap_alloc_new w edg0)) ?_
 intro w9 hh9 hg9
 go_wp2
 (try simp only [Exit.inBlock, Exit.then])
 refine br hh9 Tryz.underlying92 ?_
 have hG : w.grownBy w9 (some b) := ((grown_some (ga w edg0 none) b).trans hgx).andThen hg9 (fun j e => .inl (by cases e; exact Nat.le_refl _))
 exact ⟨rfl, HH.out.to hG (hP2.st.kept hg9 (by simp; omega)) hP2.lt, hG⟩
end
structure Wd (w wk : World) (b g cap : Nat) (T : List Lex.Tk) (s : Gram.Rf.St) (tk : Obj) (x : Array Value) : Prop where
 p : Rp wk b g cap T s
 g' : w.grownBy wk (some b)
 t : wk.heap[w.heap.size]? = some tk
 r : wk.heap[w.heap.size + 1]? = some exp0
 x' : wk.heap[w.heap.size + 1 + 1]? = some (.cells x 85 (0, 0))
 bl : b < w.heap.size
section
variable {w wk wn : World} {b g cap : Nat} {T : List Lex.Tk} {s s' : Gram.Rf.St} {tk : Obj} {x : Array Value}
theorem Wd.sz (h : Wd w wk b g cap T s tk x) : w.heap.size + 1 + 1 < wk.heap.size := (Array.getElem?_eq_some_iff.1 h.x').1
theorem Wd.step (h : Wd w wk b g cap T s tk x) (hg : wk.grownBy wn (some b)) (hp : Rp wn b g cap T s') : Wd w wn b g cap T s' tk x := by
 have h1 := h.sz
 have h2 := h.bl
 exact ⟨hp, h.g'.trans hg, (hg.block _ (by omega) (by simp; omega)).trans h.t, (hg.block _ (by omega) (by simp; omega)).trans h.r, (hg.block _ (by omega) (by simp; omega)).trans h.x', h.bl⟩
theorem Wd.step0 (h : Wd w wk b g cap T s tk x) (hg : wk.grownBy wn none) : Wd w wn b g cap T s tk x := h.step (grown_some hg b) (h.p.kept hg)
theorem Wd.alloc (h : Wd w wk b g cap T s tk x) (o : Obj) : Wd w (wk.alloc o) b g cap T s tk x := h.step0 (ga wk o none)
theorem Wd.set (h0 : Rp w b g cap T s') (h : Wd w wk b g cap T s tk x) (j : Nat) (v : Value) : Wd w (wk.setCell ⟨w.heap.size + 1 + 1, j, none⟩ v) b g cap T s tk (x.setIfInBounds j v) := by
 have h1 := h.sz
 have h2 := h.bl
 have hs := Rp.setX h0 h.g' h.p (xb := w.heap.size + 1 + 1) (by omega) j v
 have hg : wk.grownBy (wk.setCell ⟨w.heap.size + 1 + 1, j, none⟩ v) (some (w.heap.size + 1 + 1)) := gset (World.grownBy.refl wk _) (a := ⟨w.heap.size + 1 + 1, j, none⟩) (.inr rfl) v
 exact ⟨hs.1, hs.2, (hg.block _ (by omega) (fun e => by have := Option.some.inj e; omega)).trans h.t, (hg.block _ (by omega) (fun e => by have := Option.some.inj e; omega)).trans h.r, heap_setCell_same _ _ j _ _ v h.x', h.bl⟩
theorem Wd.adv (h : Wd w wk b g cap T s tk x) (hi : s.i + 1 < T.length) : Wd w (wk.setCell ⟨b, 1, none⟩ (.int .i64 ((s.i : Int) + 1))) b g cap T (Gram.Rf.adv s) tk x := by
 have h1 := radv_w h.p hi
 exact h.step h1.2 h1.1
theorem Wd.text {yk yn yu : Int} {yt : List UInt8} {ya : Nat} (h : Wd w wk b g cap T s (tO yk yt yn yu ya) x) : wk.cell? ⟨w.heap.size, 1, none⟩ = some (.string ⟨yt.toArray⟩) := cell_of_row wk _ 1 _ _ _ h.t
end
namespace Gram
abbrev Step := Exp → Nat → PR Exp
def parts (T : List Lex.Tk) : List Step → B → Step
 | [], _, x, i => (expect T i [41]).bind fun _ j => .ok x j
 | s :: r, s0, x, i => (expect T i s0).bind fun _ j => (s x j).bind fun y k => parts T r [44] y k
theorem exps_len (T : List Lex.Tk) (d : Nat) : ∀ (f : Nat) (acc : List Exp) (i : Nat) (l : List Exp) (j : Nat), exps T f d acc i = .ok l j → l.length ≤ 16
 | 0, acc, i, l, j, h => by unfold exps at h; cases h
 | f + 1, acc, i, l, j, h => by
  unfold exps need room at h
  split at h
  ·split at h
   ·cases h
   ·rename_i hm
    cases hx : exp T f d i with
    | fuel => rw [hx] at h; cases h
    | bad => rw [hx] at h; cases h
    | ok e k =>
     rw [hx] at h
     simp only [PR.bind] at h
     split at h
     ·exact exps_len T d f _ _ l j h
     ·cases h; simp; omega
  ·cases h
end Gram
section
variable {w0 w w1 w' : World} {b g cap : Nat} {rv : Value} {T : List Lex.Tk} {q i j d c c' B p : Nat} {PB : Obj} {x y : Gram.Exp} {v u : Value}
end
section
variable (b g cap : Nat) (rv : Value) (T : List Lex.Tk) (d : Nat)
end
section
variable {P : Program} {ops : Array Oper} {Q : Exit → Act → World → Prop} {md : Region.Mode} {S : World → Prop} {Z : List Nat}
theorem wp_append_at {w : World} {o : Oper} {a : Act} {K : Act → World → Prop} (s x : Operand) (t : TypeId)
  (ho : o.op = .call { callee := .builtin .append, args := #[s, x], argTypes := #[t, t] })
  (base : Nat) (e : TypeId) (i : TypeInfo) (z : Value) (size bytes : Nat) (ht : P.underlying t = some (.slice e)) (hi : P.info? e = some i) (hz : i.zero = some z)
  (hsize : i.size = size) (hby : i.bytes = bytes) (hzs : z.cells.size = size) (hsz : 0 < size)
  (v : Value) (n : Nat) (xs : List Value) (hs : a.eval s = v) (hown : w.ownsRow base e size v n xs)
  (ad : Addr) (m c : Nat) (news : List Value) (hx : a.eval x = .slice (some ad) m c) (hl : news.length = m * size) (hnews : ∀ j u, news[j]? = some u → w.cell? (ad.add j) = some u) (h1 : ∀ u ∈ news, u.oneCell' = true)
  (h63 : n + m ≤ maxLen) (hbytes : (n + m) * bytes ≤ 140737488355328) (hbase : base ≤ w.heap.size)
  (h : ∀ v' w', w'.ownsRow base e size v' (n + m) (xs ++ news) → w.grownBy w' v.ownBlock → (v' = .slice none 0 0 ↔ v = .slice none 0 0 ∧ m = 0) → (v'.ownBlock = v.ownBlock ∨ v'.ownBlock = some w.heap.size) → K (a.put o.dst v') w') :
  Oper.wp P o a w K Q := by
 obtain ⟨v', w', hr, h2, h3, h4, h5⟩ := run_append_own_at (P := P) w base t o.type e i z size bytes ht hi hz hsize hby hzs hsz v n xs hown ad m c news hl hnews h1 h63 hbytes hbase
 unfold Oper.wp execOp
 simp only [ho, resolve, invoke, builtin, Sem.run_bind, Sem.run_pure, Result.andThen_ok, List.map_toArray, List.map_cons, List.map_nil, hs, hx, hr]
 exact h v' w' h2 h3 h4 h5
end
theorem owns_there {w : World} {B : Nat} {e : TypeId} {size g n cap : Nat} {xs : List Value} (h : w.ownsRow B e size (.slice (some ⟨g, 0, none⟩) n cap) n xs) (o m : Nat) (hm : o + m ≤ xs.length) : w.there g o m := by
 intro j hj
 refine ⟨?_, h.frozenAt _⟩
 rcases h.2 with ⟨h', _⟩ | ⟨g', cap', cur, h', hb, hg, hnc, hcm, hcs, htake⟩
 ·simp at h'
 ·simp only [Value.slice.injEq, Option.some.injEq, Addr.mk.injEq, and_true, true_and] at h'
  obtain ⟨rfl, rfl⟩ := h'
  rw [cell_of_row w g _ _ _ _ hg]
  have h1 : xs.length ≤ cur.size := by rw [← htake]; simp; omega
  simp; omega
section
variable (b g cap : Nat) (rv : Value) (T : List Lex.Tk) (d : Nat)
end
theorem heap3_0 (w : World) (A B C : Obj) : (((w.alloc A).alloc B).alloc C).heap[w.heap.size]? = some A := ((ga ((w.alloc A).alloc B) C none).block w.heap.size (by simp; omega) (by simp)).trans (heap_alloc2_old w A B)
theorem heap3_1 (w : World) (A B C : Obj) : (((w.alloc A).alloc B).alloc C).heap[w.heap.size + 1]? = some B := ((ga ((w.alloc A).alloc B) C none).block (w.heap.size + 1) (by simp) (by simp)).trans (heap_alloc2_new w A B)
theorem heap3_2 (w : World) (A B C : Obj) : (((w.alloc A).alloc B).alloc C).heap[w.heap.size + 1 + 1]? = some C := by
 have e := heap_alloc_new ((w.alloc A).alloc B) C
 rw [World.size_alloc, World.size_alloc] at e
 exact e
theorem Kids.setX {w wk : World} {B : Nat} {l : List Gram.Exp} {k : Value} (hB : w.heap.size + 3 ≤ B) (j : Nat) (v : Value) (h : Kids wk B l k) : Kids (wk.setCell ⟨w.heap.size + 1 + 1, j, none⟩ v) B l k := RepC.kept (gset (World.grownBy.refl wk (some (w.heap.size + 1 + 1))) (a := ⟨w.heap.size + 1 + 1, j, none⟩) (.inr rfl) v) (fun k e => by cases e; omega) h
theorem exps_len {T : List Lex.Tk} : ∀ (f : Nat) (l : List Gram.Exp) (s : Gram.Rf.St) {r : List Gram.Exp × Gram.Rf.St}, l.length ≤ 16 → Gram.Rf.exps T f l s = some r → r.1.length ≤ 16
 | 0, _, _, _, _, h => by rw [Gram.Rf.exps] at h; cases h
 | f + 1, l, s, r, hl, h => by
  rw [Gram.Rf.exps] at h
  split at h
  ·split at h
   ·injection h with h; rw [← h]; exact hl
   ·rename_i hm
    cases hx : Gram.Rf.exp T f s with
    | none => rw [hx] at h; cases h
    | some q =>
     rw [hx] at h
     simp only [Gram.Rf.bindS] at h
     split at h
     ·exact exps_len f _ _ (by simp; omega) h
     ·injection h with h; rw [← h]; simp; omega
  ·injection h with h; rw [← h]; exact hl
theorem call_len {T : List Lex.Tk} {f : Nat} {s : Gram.Rf.St} {l : List Gram.Exp} {t : Gram.Rf.St} (h : Gram.Rf.call T f s = some (l, t)) : l.length ≤ 16 := by
 cases f with
 | zero => rw [Gram.Rf.call] at h; cases h
 | succ f =>
  rw [Gram.Rf.call] at h
  split at h
  ·injection h with h; injection h with h _; rw [← h]; simp
  ·cases hx : Gram.Rf.exps T f [] (Gram.Rf.take T [40] s) with
   | none => rw [hx] at h; cases h
   | some q =>
    rw [hx] at h
    simp only [Gram.Rf.bindS] at h
    injection h with h; injection h with h _
    rw [← h]; exact exps_len f [] _ (by simp) hx
theorem Kids.three {w : World} {B : Nat} {x y z : Gram.Exp} {k l m v : Value} (ho : w.ownsRow B 85 9 v 3 (expCells x k ++ expCells y l ++ expCells z m)) (h : Kids w B x.kids k) (h2 : Kids w B y.kids l) (h3 : Kids w B z.kids m) : Kids w B [x, y, z] v := by
 refine .l (xs := expCells x k ++ expCells y l ++ expCells z m) (by simpa [expsD] using ho) (fun _ e => by cases e) ?_
 simpa [expsD] using ((exp_row (E := []) h).append (exp_row (E := []) h2)).append (exp_row (E := []) h3)
section
variable (b g cap : Nat) (T : List Lex.Tk)
theorem rword_true (f : Nat) (hC : ∀ f', f' ≤ f → CRex b g cap T 166 (Gram.Rf.exp T f')) (s : Gram.Rf.St) (w : World) (h : Rp w b g cap T s) (yk yn yu : Int) (yt : List UInt8) (ya : Nat) (hw : yt = [116, 114, 117, 101]) (hi : s.i + 1 < T.length) (hf : (Gram.Rf.wordE T (f + 1) ⟨yk, yt, yn, yu, ya⟩ s).isSome = true) :
  Calls Tryz.prog 185 #[.pointer (some ⟨b, 0, none⟩), .agg #[.int .i64 yk, .string ⟨yt.toArray⟩, .int .i64 yn, .int .i64 yu, .int .i64 0, .int .i64 (ya : Int)]] w fun e w' => rePost w b g cap T (Gram.Rf.wordE T (f + 1) ⟨yk, yt, yn, yu, ya⟩ s) e w' := by
 have hbw := h.bl
 have hm := h.toks.most
 have HH := ld h
 have p1 := h.st.c1
 have fr1 := h.st.fr 1
 have nb0 : ¬ b = w.heap.size := by omega
 have nb1 : ¬ b = w.heap.size + 1 := by omega
 have nb2 : ¬ b = w.heap.size + 1 + 1 := by omega
 have nb3 : ¬ b = w.heap.size + 1 + 1 := by omega
 rw [Gram.Rf.wordE] at hf ⊢
 simp only at hf ⊢
 rw [if_pos (show yt = [116, 114, 117, 101] from hw)] at hf ⊢
 have e_true : (yt == [116, 114, 117, 101]) = true := by rw [hw]; rfl
 have e_false : (yt == [102, 97, 108, 115, 101]) = false := by rw [hw]; rfl
 have e_if : (yt == [105, 102]) = false := by rw [hw]; rfl
 have e_when : (yt == [119, 104, 101, 110]) = false := by rw [hw]; rfl
 have e_merge : (yt == [109, 101, 114, 103, 101]) = false := by rw [hw]; rfl
 have e_cast : (yt == [99, 97, 115, 116]) = false := by rw [hw]; rfl
 have e_tick : (yt == [116, 105, 99, 107]) = false := by rw [hw]; rfl
 have e_reset : (yt == [114, 101, 115, 101, 116]) = false := by rw [hw]; rfl
 have e_rep : (yt == [114, 101, 112]) = false := by rw [hw]; rfl
 have e_map : (yt == [109, 97, 112]) = false := by rw [hw]; rfl
 have e_fold : (yt == [102, 111, 108, 100]) = false := by rw [hw]; rfl
 clear hf
 clear hw
 have H : Wd w ((((w.alloc (tO yk yt yn yu ya)).alloc exp0).alloc (.cells #[.int .i64 0, .int .i64 0, .string ⟨#[]⟩, .int .i64 0, .int .i64 0, .int .i64 0, .int .i64 0, .slice none 0 0, .int .i64 (ya : Int)] 85))) b g cap T (s) (tO yk yt yn yu ya) #[.int .i64 0, .int .i64 0, .string ⟨#[]⟩, .int .i64 0, .int .i64 0, .int .i64 0, .int .i64 0, .slice none 0 0, .int .i64 (ya : Int)] := ⟨((h.alloc _).alloc _).alloc _, galloc (galloc (galloc (World.grownBy.refl w (some b)) _) _) _, heap3_0 w _ _ _, heap3_1 w _ _ _, heap3_2 w _ _ _, hbw⟩
 have q1 := H.p.st.c1
 have qf := H.p.st.fr 1
 unfold exp0 at q1 qf
 have H : Wd w (((((w.alloc (tO yk yt yn yu ya)).alloc exp0).alloc (.cells #[.int .i64 0, .int .i64 0, .string ⟨#[]⟩, .int .i64 0, .int .i64 0, .int .i64 0, .int .i64 0, .slice none 0 0, .int .i64 (ya : Int)] 85))).setCell ⟨b, 1, none⟩ (.int .i64 ((s.i : Int) + 1))) b g cap T (Gram.Rf.adv s) (tO yk yt yn yu ya) #[.int .i64 0, .int .i64 0, .string ⟨#[]⟩, .int .i64 0, .int .i64 0, .int .i64 0, .int .i64 0, .slice none 0 0, .int .i64 (ya : Int)] := H.adv hi
 go_enter Tryz.func185, Tryz.ntmps185
 refine Hid.out ?_
 have H : Wd w ((((((w.alloc (tO yk yt yn yu ya)).alloc exp0).alloc (.cells #[.int .i64 0, .int .i64 0, .string ⟨#[]⟩, .int .i64 0, .int .i64 0, .int .i64 0, .int .i64 0, .slice none 0 0, .int .i64 (ya : Int)] 85))).setCell ⟨b, 1, none⟩ (.int .i64 ((s.i : Int) + 1))).setCell ⟨w.heap.size + 1 + 1, 0, none⟩ (.int .i64 1)) b g cap T (Gram.Rf.adv s) (tO yk yt yn yu ya) #[.int .i64 1, .int .i64 0, .string ⟨#[]⟩, .int .i64 0, .int .i64 0, .int .i64 0, .int .i64 0, .slice none 0 0, .int .i64 (ya : Int)] := Wd.set h H 0 (.int .i64 1)
 have H : Wd w (((((((w.alloc (tO yk yt yn yu ya)).alloc exp0).alloc (.cells #[.int .i64 0, .int .i64 0, .string ⟨#[]⟩, .int .i64 0, .int .i64 0, .int .i64 0, .int .i64 0, .slice none 0 0, .int .i64 (ya : Int)] 85))).setCell ⟨b, 1, none⟩ (.int .i64 ((s.i : Int) + 1))).setCell ⟨w.heap.size + 1 + 1, 0, none⟩ (.int .i64 1)).setCell ⟨w.heap.size + 1 + 1, 3, none⟩ (.int .i64 1)) b g cap T (Gram.Rf.adv s) (tO yk yt yn yu ya) #[.int .i64 1, .int .i64 0, .string ⟨#[]⟩, .int .i64 1, .int .i64 0, .int .i64 0, .int .i64 0, .slice none 0 0, .int .i64 (ya : Int)] := Wd.set h H 3 (.int .i64 1)
 have H : Wd w ((((((((w.alloc (tO yk yt yn yu ya)).alloc exp0).alloc (.cells #[.int .i64 0, .int .i64 0, .string ⟨#[]⟩, .int .i64 0, .int .i64 0, .int .i64 0, .int .i64 0, .slice none 0 0, .int .i64 (ya : Int)] 85))).setCell ⟨b, 1, none⟩ (.int .i64 ((s.i : Int) + 1))).setCell ⟨w.heap.size + 1 + 1, 0, none⟩ (.int .i64 1)).setCell ⟨w.heap.size + 1 + 1, 3, none⟩ (.int .i64 1)).setCell ⟨w.heap.size + 1 + 1, 4, none⟩ (.int .i64 0)) b g cap T (Gram.Rf.adv s) (tO yk yt yn yu ya) #[.int .i64 1, .int .i64 0, .string ⟨#[]⟩, .int .i64 1, .int .i64 0, .int .i64 0, .int .i64 0, .slice none 0 0, .int .i64 (ya : Int)] := Wd.set h H 4 (.int .i64 0)
 have H : Wd w (((((((((w.alloc (tO yk yt yn yu ya)).alloc exp0).alloc (.cells #[.int .i64 0, .int .i64 0, .string ⟨#[]⟩, .int .i64 0, .int .i64 0, .int .i64 0, .int .i64 0, .slice none 0 0, .int .i64 (ya : Int)] 85))).setCell ⟨b, 1, none⟩ (.int .i64 ((s.i : Int) + 1))).setCell ⟨w.heap.size + 1 + 1, 0, none⟩ (.int .i64 1)).setCell ⟨w.heap.size + 1 + 1, 3, none⟩ (.int .i64 1)).setCell ⟨w.heap.size + 1 + 1, 4, none⟩ (.int .i64 0)).setCell ⟨w.heap.size + 1 + 1, 5, none⟩ (.int .i64 1)) b g cap T (Gram.Rf.adv s) (tO yk yt yn yu ya) #[.int .i64 1, .int .i64 0, .string ⟨#[]⟩, .int .i64 1, .int .i64 0, .int .i64 1, .int .i64 0, .slice none 0 0, .int .i64 (ya : Int)] := Wd.set h H 5 (.int .i64 1)
 obtain ⟨c0, c1, c2, c3, c4, c5, c6, c7, c8, cf⟩ := Nc.of H.x'
 have ct := Wd.text H
 have HF := ld H
 have hr1 := H.r
 have hgx := H.g'
 clear H
 refine ld ?_
 go_wp2_with (with_reducible refine hold_st 4 ?_)
 refine wpList_store_gen rfl _ _ _ rfl (w.heap.size + 1) #[.int .i64 1, .int .i64 0, .string ⟨#[]⟩, .int .i64 1, .int .i64 0, .int .i64 1, .int .i64 0, .slice none 0 0, .int .i64 (ya : Int)] rfl rfl 85 _ hr1 (by kernel_rfl) rfl (by simp [Value.oneCell']) ?_
 intro w9 hh9 hg9
 go_wp2
 (try simp only [Exit.inBlock, Exit.then])
 refine br hh9 Tryz.underlying85 ?_
 have hG : w.grownBy w9 (some b) := hgx.andThen hg9 (fun j e => .inl (by cases e; omega))
 exact ⟨_, rfl, Kids.nil _ _, HH.out.to hG (HF.out.p.st.kept hg9 (by simp; omega)) HF.out.p.lt, hG⟩
theorem rword_false (f : Nat) (hC : ∀ f', f' ≤ f → CRex b g cap T 166 (Gram.Rf.exp T f')) (s : Gram.Rf.St) (w : World) (h : Rp w b g cap T s) (yk yn yu : Int) (yt : List UInt8) (ya : Nat) (hw : yt = [102, 97, 108, 115, 101]) (hi : s.i + 1 < T.length) (hf : (Gram.Rf.wordE T (f + 1) ⟨yk, yt, yn, yu, ya⟩ s).isSome = true) :
  Calls Tryz.prog 185 #[.pointer (some ⟨b, 0, none⟩), .agg #[.int .i64 yk, .string ⟨yt.toArray⟩, .int .i64 yn, .int .i64 yu, .int .i64 0, .int .i64 (ya : Int)]] w fun e w' => rePost w b g cap T (Gram.Rf.wordE T (f + 1) ⟨yk, yt, yn, yu, ya⟩ s) e w' := by
 have hbw := h.bl
 have hm := h.toks.most
 have HH := ld h
 have p1 := h.st.c1
 have fr1 := h.st.fr 1
 have nb0 : ¬ b = w.heap.size := by omega
 have nb1 : ¬ b = w.heap.size + 1 := by omega
 have nb2 : ¬ b = w.heap.size + 1 + 1 := by omega
 have nb3 : ¬ b = w.heap.size + 1 + 1 := by omega
 rw [Gram.Rf.wordE] at hf ⊢
 simp only at hf ⊢
 rw [if_neg (show ¬ yt = [116, 114, 117, 101] by rw [hw]; decide)] at hf ⊢
 rw [if_pos (show yt = [102, 97, 108, 115, 101] from hw)] at hf ⊢
 have e_true : (yt == [116, 114, 117, 101]) = false := by rw [hw]; rfl
 have e_false : (yt == [102, 97, 108, 115, 101]) = true := by rw [hw]; rfl
 have e_if : (yt == [105, 102]) = false := by rw [hw]; rfl
 have e_when : (yt == [119, 104, 101, 110]) = false := by rw [hw]; rfl
 have e_merge : (yt == [109, 101, 114, 103, 101]) = false := by rw [hw]; rfl
 have e_cast : (yt == [99, 97, 115, 116]) = false := by rw [hw]; rfl
 have e_tick : (yt == [116, 105, 99, 107]) = false := by rw [hw]; rfl
 have e_reset : (yt == [114, 101, 115, 101, 116]) = false := by rw [hw]; rfl
 have e_rep : (yt == [114, 101, 112]) = false := by rw [hw]; rfl
 have e_map : (yt == [109, 97, 112]) = false := by rw [hw]; rfl
 have e_fold : (yt == [102, 111, 108, 100]) = false := by rw [hw]; rfl
 clear hf
 clear hw
 have H : Wd w ((((w.alloc (tO yk yt yn yu ya)).alloc exp0).alloc (.cells #[.int .i64 0, .int .i64 0, .string ⟨#[]⟩, .int .i64 0, .int .i64 0, .int .i64 0, .int .i64 0, .slice none 0 0, .int .i64 (ya : Int)] 85))) b g cap T (s) (tO yk yt yn yu ya) #[.int .i64 0, .int .i64 0, .string ⟨#[]⟩, .int .i64 0, .int .i64 0, .int .i64 0, .int .i64 0, .slice none 0 0, .int .i64 (ya : Int)] := ⟨((h.alloc _).alloc _).alloc _, galloc (galloc (galloc (World.grownBy.refl w (some b)) _) _) _, heap3_0 w _ _ _, heap3_1 w _ _ _, heap3_2 w _ _ _, hbw⟩
 have q1 := H.p.st.c1
 have qf := H.p.st.fr 1
 unfold exp0 at q1 qf
 have H : Wd w (((((w.alloc (tO yk yt yn yu ya)).alloc exp0).alloc (.cells #[.int .i64 0, .int .i64 0, .string ⟨#[]⟩, .int .i64 0, .int .i64 0, .int .i64 0, .int .i64 0, .slice none 0 0, .int .i64 (ya : Int)] 85))).setCell ⟨b, 1, none⟩ (.int .i64 ((s.i : Int) + 1))) b g cap T (Gram.Rf.adv s) (tO yk yt yn yu ya) #[.int .i64 0, .int .i64 0, .string ⟨#[]⟩, .int .i64 0, .int .i64 0, .int .i64 0, .int .i64 0, .slice none 0 0, .int .i64 (ya : Int)] := H.adv hi
 go_enter Tryz.func185, Tryz.ntmps185
 refine Hid.out ?_
 have H : Wd w ((((((w.alloc (tO yk yt yn yu ya)).alloc exp0).alloc (.cells #[.int .i64 0, .int .i64 0, .string ⟨#[]⟩, .int .i64 0, .int .i64 0, .int .i64 0, .int .i64 0, .slice none 0 0, .int .i64 (ya : Int)] 85))).setCell ⟨b, 1, none⟩ (.int .i64 ((s.i : Int) + 1))).setCell ⟨w.heap.size + 1 + 1, 0, none⟩ (.int .i64 1)) b g cap T (Gram.Rf.adv s) (tO yk yt yn yu ya) #[.int .i64 1, .int .i64 0, .string ⟨#[]⟩, .int .i64 0, .int .i64 0, .int .i64 0, .int .i64 0, .slice none 0 0, .int .i64 (ya : Int)] := Wd.set h H 0 (.int .i64 1)
 have H : Wd w (((((((w.alloc (tO yk yt yn yu ya)).alloc exp0).alloc (.cells #[.int .i64 0, .int .i64 0, .string ⟨#[]⟩, .int .i64 0, .int .i64 0, .int .i64 0, .int .i64 0, .slice none 0 0, .int .i64 (ya : Int)] 85))).setCell ⟨b, 1, none⟩ (.int .i64 ((s.i : Int) + 1))).setCell ⟨w.heap.size + 1 + 1, 0, none⟩ (.int .i64 1)).setCell ⟨w.heap.size + 1 + 1, 3, none⟩ (.int .i64 1)) b g cap T (Gram.Rf.adv s) (tO yk yt yn yu ya) #[.int .i64 1, .int .i64 0, .string ⟨#[]⟩, .int .i64 1, .int .i64 0, .int .i64 0, .int .i64 0, .slice none 0 0, .int .i64 (ya : Int)] := Wd.set h H 3 (.int .i64 1)
 have H : Wd w ((((((((w.alloc (tO yk yt yn yu ya)).alloc exp0).alloc (.cells #[.int .i64 0, .int .i64 0, .string ⟨#[]⟩, .int .i64 0, .int .i64 0, .int .i64 0, .int .i64 0, .slice none 0 0, .int .i64 (ya : Int)] 85))).setCell ⟨b, 1, none⟩ (.int .i64 ((s.i : Int) + 1))).setCell ⟨w.heap.size + 1 + 1, 0, none⟩ (.int .i64 1)).setCell ⟨w.heap.size + 1 + 1, 3, none⟩ (.int .i64 1)).setCell ⟨w.heap.size + 1 + 1, 4, none⟩ (.int .i64 0)) b g cap T (Gram.Rf.adv s) (tO yk yt yn yu ya) #[.int .i64 1, .int .i64 0, .string ⟨#[]⟩, .int .i64 1, .int .i64 0, .int .i64 0, .int .i64 0, .slice none 0 0, .int .i64 (ya : Int)] := Wd.set h H 4 (.int .i64 0)
 obtain ⟨c0, c1, c2, c3, c4, c5, c6, c7, c8, cf⟩ := Nc.of H.x'
 have ct := Wd.text H
 have HF := ld H
 have hr1 := H.r
 have hgx := H.g'
 clear H
 refine ld ?_
 go_wp2_with (with_reducible refine hold_st 4 ?_)
 refine wpList_store_gen rfl _ _ _ rfl (w.heap.size + 1) #[.int .i64 1, .int .i64 0, .string ⟨#[]⟩, .int .i64 1, .int .i64 0, .int .i64 0, .int .i64 0, .slice none 0 0, .int .i64 (ya : Int)] rfl rfl 85 _ hr1 (by kernel_rfl) rfl (by simp [Value.oneCell']) ?_
 intro w9 hh9 hg9
 go_wp2
 (try simp only [Exit.inBlock, Exit.then])
 refine br hh9 Tryz.underlying85 ?_
 have hG : w.grownBy w9 (some b) := hgx.andThen hg9 (fun j e => .inl (by cases e; omega))
 exact ⟨_, rfl, Kids.nil _ _, HH.out.to hG (HF.out.p.st.kept hg9 (by simp; omega)) HF.out.p.lt, hG⟩
end
section
variable (b g cap : Nat) (T : List Lex.Tk)
theorem rword_when (f : Nat) (hC : ∀ f', f' ≤ f → CRex b g cap T 166 (Gram.Rf.exp T f')) (s : Gram.Rf.St) (w : World) (h : Rp w b g cap T s) (yk yn yu : Int) (yt : List UInt8) (ya : Nat) (hw : yt = [119, 104, 101, 110]) (hi : s.i + 1 < T.length) (hf : (Gram.Rf.wordE T (f + 1) ⟨yk, yt, yn, yu, ya⟩ s).isSome = true) :
  Calls Tryz.prog 185 #[.pointer (some ⟨b, 0, none⟩), .agg #[.int .i64 yk, .string ⟨yt.toArray⟩, .int .i64 yn, .int .i64 yu, .int .i64 0, .int .i64 (ya : Int)]] w fun e w' => rePost w b g cap T (Gram.Rf.wordE T (f + 1) ⟨yk, yt, yn, yu, ya⟩ s) e w' := by
 have hbw := h.bl
 have hm := h.toks.most
 have HH := ld h
 have p1 := h.st.c1
 have fr1 := h.st.fr 1
 have nb0 : ¬ b = w.heap.size := by omega
 have nb1 : ¬ b = w.heap.size + 1 := by omega
 have nb2 : ¬ b = w.heap.size + 1 + 1 := by omega
 have nb3 : ¬ b = w.heap.size + 1 + 1 := by omega
 rw [Gram.Rf.wordE] at hf ⊢
 simp only at hf ⊢
 rw [if_neg (show ¬ yt = [116, 114, 117, 101] by rw [hw]; decide)] at hf ⊢
 rw [if_neg (show ¬ yt = [102, 97, 108, 115, 101] by rw [hw]; decide)] at hf ⊢
 rw [if_neg (show ¬ yt = [105, 102] by rw [hw]; decide)] at hf ⊢
 rw [if_pos (show yt = [119, 104, 101, 110] from hw)] at hf ⊢
 have e_true : (yt == [116, 114, 117, 101]) = false := by rw [hw]; rfl
 have e_false : (yt == [102, 97, 108, 115, 101]) = false := by rw [hw]; rfl
 have e_if : (yt == [105, 102]) = false := by rw [hw]; rfl
 have e_when : (yt == [119, 104, 101, 110]) = true := by rw [hw]; rfl
 have e_merge : (yt == [109, 101, 114, 103, 101]) = false := by rw [hw]; rfl
 have e_cast : (yt == [99, 97, 115, 116]) = false := by rw [hw]; rfl
 have e_tick : (yt == [116, 105, 99, 107]) = false := by rw [hw]; rfl
 have e_reset : (yt == [114, 101, 115, 101, 116]) = false := by rw [hw]; rfl
 have e_rep : (yt == [114, 101, 112]) = false := by rw [hw]; rfl
 have e_map : (yt == [109, 97, 112]) = false := by rw [hw]; rfl
 have e_fold : (yt == [102, 111, 108, 100]) = false := by rw [hw]; rfl
 cases hr2 : Gram.Rf.exp T f (Gram.Rf.take T [40] (Gram.Rf.adv s)) with
 | none => rw [hr2] at hf; cases hf
 | some r2 =>
 obtain ⟨x2, t2⟩ := r2
 rw [hr2] at hf
 simp only [Gram.Rf.bindS] at hf ⊢
 cases x2 with
 | mk f2 s2' nm2 tk2 tl2 n2' m2 ks2 a2 =>
 have hce2 : ∀ wx, Rp wx b g cap T (Gram.Rf.take T [40] (Gram.Rf.adv s)) → Calls Tryz.prog 166 #[.pointer (some ⟨b, 0, none⟩)] wx fun e w' => rePost wx b g cap T (some ((Gram.Exp.mk f2 s2' nm2 tk2 tl2 n2' m2 ks2 a2), t2)) e w' := fun wx hx => by
  have := hC f (Nat.le_refl _) (Gram.Rf.take T [40] (Gram.Rf.adv s)) wx hx
  rw [hr2] at this
  exact this rfl
 simp only [rePost, expV] at hce2
 clear hr2
 have hce3 := fun wx hx => redge_any b g cap T (Gram.Rf.take T [44] t2) wx hx
 generalize Gram.Rf.edge T (Gram.Rf.take T [44] t2) = r3 at *
 obtain ⟨⟨gn, go⟩, t3⟩ := r3
 simp only at hce3 ⊢
 clear hf hw
 cases go with
 | true =>
  have H : Wd w ((((w.alloc (tO yk yt yn yu ya)).alloc exp0).alloc (.cells #[.int .i64 0, .int .i64 0, .string ⟨#[]⟩, .int .i64 0, .int .i64 0, .int .i64 0, .int .i64 0, .slice none 0 0, .int .i64 (ya : Int)] 85))) b g cap T (s) (tO yk yt yn yu ya) #[.int .i64 0, .int .i64 0, .string ⟨#[]⟩, .int .i64 0, .int .i64 0, .int .i64 0, .int .i64 0, .slice none 0 0, .int .i64 (ya : Int)] := ⟨((h.alloc _).alloc _).alloc _, galloc (galloc (galloc (World.grownBy.refl w (some b)) _) _) _, heap3_0 w _ _ _, heap3_1 w _ _ _, heap3_2 w _ _ _, hbw⟩
  have q1 := H.p.st.c1
  have qf := H.p.st.fr 1
  unfold exp0 at q1 qf
  have H : Wd w (((((w.alloc (tO yk yt yn yu ya)).alloc exp0).alloc (.cells #[.int .i64 0, .int .i64 0, .string ⟨#[]⟩, .int .i64 0, .int .i64 0, .int .i64 0, .int .i64 0, .slice none 0 0, .int .i64 (ya : Int)] 85))).setCell ⟨b, 1, none⟩ (.int .i64 ((s.i : Int) + 1))) b g cap T (Gram.Rf.adv s) (tO yk yt yn yu ya) #[.int .i64 0, .int .i64 0, .string ⟨#[]⟩, .int .i64 0, .int .i64 0, .int .i64 0, .int .i64 0, .slice none 0 0, .int .i64 (ya : Int)] := H.adv hi
  go_enter Tryz.func185, Tryz.ntmps185
  refine Hid.out ?_
  have hcc := rtake_any b g cap T (Gram.Rf.adv s) ⟨#[40]⟩ _ H.p
  have hzp1 := Wd.sz H
  rw [show ((⟨#[40]⟩ : ByteArray)).data.toList = [40] from rfl] at hcc
  have HHH := ld H
  clear H
  refine ld ?_
  go_wp2_with (go_at_call 99; refine hcc.mono ?_; rintro e w11 ⟨rfl, hpz, hgz⟩; refine Hid.out ?_)
  have H := HHH.out
  clear HHH hcc
  have hsz1 := hgz.size
  have H : Wd w (w11) b g cap T (Gram.Rf.take T [40] (Gram.Rf.adv s)) (tO yk yt yn yu ya) #[.int .i64 0, .int .i64 0, .string ⟨#[]⟩, .int .i64 0, .int .i64 0, .int .i64 0, .int .i64 0, .slice none 0 0, .int .i64 (ya : Int)] := H.step hgz hpz
  have hzq1 := Wd.sz H
  have hgk := hgz
  clear hgz hpz
  obtain ⟨c0, c1, c2, c3, c4, c5, c6, c7, c8, cf⟩ := Nc.of H.x'
  have ct := Wd.text H
  have H : Wd w ((w11).setCell ⟨w.heap.size + 1 + 1, 0, none⟩ (.int .i64 9)) b g cap T (Gram.Rf.take T [40] (Gram.Rf.adv s)) (tO yk yt yn yu ya) #[.int .i64 9, .int .i64 0, .string ⟨#[]⟩, .int .i64 0, .int .i64 0, .int .i64 0, .int .i64 0, .slice none 0 0, .int .i64 (ya : Int)] := Wd.set h H 0 (.int .i64 9)
  have hcc := hce2 _ H.p
  have hzp2 := Wd.sz H
  have HHH := ld H
  clear H
  refine ld ?_
  go_wp2_with (go_at_call 166; refine hcc.mono ?_; rintro e w12 ⟨k2, rfl, hk2, hpz, hgz⟩; refine Hid.out ?_)
  clear c0 c1 c2 c3 c4 c5 c6 c7 c8 cf ct
  have H := HHH.out
  clear HHH hcc
  have hsz2 := hgz.size
  have H : Wd w (w12) b g cap T (t2) (tO yk yt yn yu ya) #[.int .i64 9, .int .i64 0, .string ⟨#[]⟩, .int .i64 0, .int .i64 0, .int .i64 0, .int .i64 0, .slice none 0 0, .int .i64 (ya : Int)] := H.step hgz hpz
  have hzq2 := Wd.sz H
  have hgk := hgz
  clear hgz hpz
  obtain ⟨c0, c1, c2, c3, c4, c5, c6, c7, c8, cf⟩ := Nc.of H.x'
  have ct := Wd.text H
  obtain ⟨ka2, kn2, kc2, rfl⟩ := hk2.form
  have hkset := RepC.kept (gset (World.grownBy.refl w12 (some (w.heap.size + 1 + 1))) (a := ⟨w.heap.size + 1 + 1, 7, none⟩) (.inr rfl) (.slice (some ⟨w12.heap.size, 0, none⟩) 1 1)) (fun k e => by cases e; omega) (show RepC _ _ [] _ _ from hk2)
  have H : Wd w ((w12).setCell ⟨w.heap.size + 1 + 1, 7, none⟩ (.slice (some ⟨w12.heap.size, 0, none⟩) 1 1)) b g cap T (t2) (tO yk yt yn yu ya) #[.int .i64 9, .int .i64 0, .string ⟨#[]⟩, .int .i64 0, .int .i64 0, .int .i64 0, .int .i64 0, .slice (some ⟨w12.heap.size, 0, none⟩) 1 1, .int .i64 (ya : Int)] := Wd.set h H 7 (.slice (some ⟨w12.heap.size, 0, none⟩) 1 1)
  have H : Wd w (((w12).setCell ⟨w.heap.size + 1 + 1, 7, none⟩ (.slice (some ⟨w12.heap.size, 0, none⟩) 1 1)).alloc (.cells #[.int .i64 f2, .int .i64 s2', .string ⟨nm2.toArray⟩, .int .i64 tk2, .int .i64 tl2, .int .i64 n2', .int .i64 m2, .slice ka2 kn2 kc2, .int .i64 a2] 85)) b g cap T (t2) (tO yk yt yn yu ya) #[.int .i64 9, .int .i64 0, .string ⟨#[]⟩, .int .i64 0, .int .i64 0, .int .i64 0, .int .i64 0, .slice (some ⟨w12.heap.size, 0, none⟩) 1 1, .int .i64 (ya : Int)] := Wd.alloc H (.cells #[.int .i64 f2, .int .i64 s2', .string ⟨nm2.toArray⟩, .int .i64 tk2, .int .i64 tl2, .int .i64 n2', .int .i64 m2, .slice ka2 kn2 kc2, .int .i64 a2] 85)
  have hKL : Kids (((w12).setCell ⟨w.heap.size + 1 + 1, 7, none⟩ (.slice (some ⟨w12.heap.size, 0, none⟩) 1 1)).alloc (.cells #[.int .i64 f2, .int .i64 s2', .string ⟨nm2.toArray⟩, .int .i64 tk2, .int .i64 tl2, .int .i64 n2', .int .i64 m2, .slice ka2 kn2 kc2, .int .i64 a2] 85)) (w.heap.size + 3) [(Gram.Exp.mk f2 s2' nm2 tk2 tl2 n2' m2 ks2 a2)] (.slice (some ⟨w12.heap.size, 0, none⟩) 1 1) := by
   have ho := owns_new (w := w12.setCell ⟨w.heap.size + 1 + 1, 7, none⟩ (.slice (some ⟨w12.heap.size, 0, none⟩) 1 1)) (B := w.heap.size + 3) 85 9 1 (expCells (Gram.Exp.mk f2 s2' nm2 tk2 tl2 n2' m2 ks2 a2) (.slice ka2 kn2 kc2)) (by rw [size_set]; omega) rfl (by unfold maxLen; omega)
   rw [size_set] at ho
   exact KidsX.one' ho (fun k e => by cases e) (RepC.kept (ga _ _ none) (fun k e => by cases e) (RepC.mono (by omega) hkset))
  clear hkset hk2
  have hcc := rtake_any b g cap T (t2) ⟨#[44]⟩ _ H.p
  have hzp3 := Wd.sz H
  rw [show ((⟨#[44]⟩ : ByteArray)).data.toList = [44] from rfl] at hcc
  have HHH := ld H
  clear H
  refine ld ?_
  go_wp2_with (go_at_call 99; refine hcc.mono ?_; rintro e w13 ⟨rfl, hpz, hgz⟩; refine Hid.out ?_)
  clear c0 c1 c2 c3 c4 c5 c6 c7 c8 cf ct
  have H := HHH.out
  clear HHH hcc
  have hsz3 := hgz.size
  have H : Wd w (w13) b g cap T (Gram.Rf.take T [44] (t2)) (tO yk yt yn yu ya) #[.int .i64 9, .int .i64 0, .string ⟨#[]⟩, .int .i64 0, .int .i64 0, .int .i64 0, .int .i64 0, .slice (some ⟨w12.heap.size, 0, none⟩) 1 1, .int .i64 (ya : Int)] := H.step hgz hpz
  have hzq3 := Wd.sz H
  have hgk := hgz
  clear hgz hpz
  obtain ⟨c0, c1, c2, c3, c4, c5, c6, c7, c8, cf⟩ := Nc.of H.x'
  have ct := Wd.text H
  have hKL := Kids.kept hKL hgk (by omega)
  have hcc := hce3 _ H.p
  have hzp4 := Wd.sz H
  have HHH := ld H
  clear H
  refine ld ?_
  go_wp2_with (go_at_call 164; refine hcc.mono ?_; rintro e w14 ⟨rfl, hpz, hgz⟩; refine Hid.out ?_)
  clear c0 c1 c2 c3 c4 c5 c6 c7 c8 cf ct
  have H := HHH.out
  clear HHH hcc
  have hsz4 := hgz.size
  have H : Wd w (w14) b g cap T (t3) (tO yk yt yn yu ya) #[.int .i64 9, .int .i64 0, .string ⟨#[]⟩, .int .i64 0, .int .i64 0, .int .i64 0, .int .i64 0, .slice (some ⟨w12.heap.size, 0, none⟩) 1 1, .int .i64 (ya : Int)] := H.step hgz hpz
  have hzq4 := Wd.sz H
  have hgk := hgz
  clear hgz hpz
  obtain ⟨c0, c1, c2, c3, c4, c5, c6, c7, c8, cf⟩ := Nc.of H.x'
  have ct := Wd.text H
  have hKL := Kids.kept hKL hgk (by omega)
  have H : Wd w ((w14).setCell ⟨w.heap.size + 1 + 1, 2, none⟩ (.string ⟨gn.toArray⟩)) b g cap T (t3) (tO yk yt yn yu ya) #[.int .i64 9, .int .i64 0, .string ⟨gn.toArray⟩, .int .i64 0, .int .i64 0, .int .i64 0, .int .i64 0, .slice (some ⟨w12.heap.size, 0, none⟩) 1 1, .int .i64 (ya : Int)] := Wd.set h H 2 (.string ⟨gn.toArray⟩)
  have hKL := Kids.setX (w := w) (by omega) 2 (.string ⟨gn.toArray⟩) hKL
  have H : Wd w (((w14).setCell ⟨w.heap.size + 1 + 1, 2, none⟩ (.string ⟨gn.toArray⟩)).setCell ⟨w.heap.size + 1 + 1, 5, none⟩ (.int .i64 1)) b g cap T (t3) (tO yk yt yn yu ya) #[.int .i64 9, .int .i64 0, .string ⟨gn.toArray⟩, .int .i64 0, .int .i64 0, .int .i64 1, .int .i64 0, .slice (some ⟨w12.heap.size, 0, none⟩) 1 1, .int .i64 (ya : Int)] := Wd.set h H 5 (.int .i64 1)
  have hKL := Kids.setX (w := w) (by omega) 5 (.int .i64 1) hKL
  have H : Wd w ((((w14).setCell ⟨w.heap.size + 1 + 1, 2, none⟩ (.string ⟨gn.toArray⟩)).setCell ⟨w.heap.size + 1 + 1, 5, none⟩ (.int .i64 1)).alloc (.cells #[.string ⟨gn.toArray⟩, .bool true] 92)) b g cap T (t3) (tO yk yt yn yu ya) #[.int .i64 9, .int .i64 0, .string ⟨gn.toArray⟩, .int .i64 0, .int .i64 0, .int .i64 1, .int .i64 0, .slice (some ⟨w12.heap.size, 0, none⟩) 1 1, .int .i64 (ya : Int)] := Wd.alloc H (.cells #[.string ⟨gn.toArray⟩, .bool true] 92)
  have hKL := Kids.kept0 hKL (ga _ (.cells #[.string ⟨gn.toArray⟩, .bool true] 92) none)
  have hcc := rtake_any b g cap T (t3) ⟨#[41]⟩ _ H.p
  have hzp5 := Wd.sz H
  rw [show ((⟨#[41]⟩ : ByteArray)).data.toList = [41] from rfl] at hcc
  have HHH := ld H
  clear H
  refine ld ?_
  go_wp2_with (go_at_call 99; refine hcc.mono ?_; rintro e w15 ⟨rfl, hpz, hgz⟩; refine Hid.out ?_)
  clear c0 c1 c2 c3 c4 c5 c6 c7 c8 cf ct
  have H := HHH.out
  clear HHH hcc
  have hsz5 := hgz.size
  have H : Wd w (w15) b g cap T (Gram.Rf.take T [41] (t3)) (tO yk yt yn yu ya) #[.int .i64 9, .int .i64 0, .string ⟨gn.toArray⟩, .int .i64 0, .int .i64 0, .int .i64 1, .int .i64 0, .slice (some ⟨w12.heap.size, 0, none⟩) 1 1, .int .i64 (ya : Int)] := H.step hgz hpz
  have hzq5 := Wd.sz H
  have hgk := hgz
  clear hgz hpz
  obtain ⟨c0, c1, c2, c3, c4, c5, c6, c7, c8, cf⟩ := Nc.of H.x'
  have ct := Wd.text H
  have hKL := Kids.kept hKL hgk (by omega)
  have HF := ld H
  have hr1 := H.r
  have hgx := H.g'
  clear H
  refine ld ?_
  go_wp2_with (with_reducible refine hold_st 4 ?_)
  refine wpList_store_gen rfl _ _ _ rfl (w.heap.size + 1) #[.int .i64 9, .int .i64 0, .string ⟨gn.toArray⟩, .int .i64 0, .int .i64 0, .int .i64 1, .int .i64 0, .slice (some ⟨w12.heap.size, 0, none⟩) 1 1, .int .i64 (ya : Int)] rfl rfl 85 _ hr1 (by kernel_rfl) rfl (by simp [Value.oneCell']) ?_
  intro w9 hh9 hg9
  go_wp2
  (try simp only [Exit.inBlock, Exit.then])
  refine br hh9 Tryz.underlying85 ?_
  have hG : w.grownBy w9 (some b) := hgx.andThen hg9 (fun j e => .inl (by cases e; omega))
  exact ⟨_, rfl, RepC.mono (by omega) (RepC.kept hg9 (fun k e => by cases e; omega) hKL), HH.out.to hG (HF.out.p.st.kept hg9 (by simp; omega)) HF.out.p.lt, hG⟩
 | false =>
  have H : Wd w ((((w.alloc (tO yk yt yn yu ya)).alloc exp0).alloc (.cells #[.int .i64 0, .int .i64 0, .string ⟨#[]⟩, .int .i64 0, .int .i64 0, .int .i64 0, .int .i64 0, .slice none 0 0, .int .i64 (ya : Int)] 85))) b g cap T (s) (tO yk yt yn yu ya) #[.int .i64 0, .int .i64 0, .string ⟨#[]⟩, .int .i64 0, .int .i64 0, .int .i64 0, .int .i64 0, .slice none 0 0, .int .i64 (ya : Int)] := ⟨((h.alloc _).alloc _).alloc _, galloc (galloc (galloc (World.grownBy.refl w (some b)) _) _) _, heap3_0 w _ _ _, heap3_1 w _ _ _, heap3_2 w _ _ _, hbw⟩
  have q1 := H.p.st.c1
  have qf := H.p.st.fr 1
  unfold exp0 at q1 qf
  have H : Wd w (((((w.alloc (tO yk yt yn yu ya)).alloc exp0).alloc (.cells #[.int .i64 0, .int .i64 0, .string ⟨#[]⟩, .int .i64 0, .int .i64 0, .int .i64 0, .int .i64 0, .slice none 0 0, .int .i64 (ya : Int)] 85))).setCell ⟨b, 1, none⟩ (.int .i64 ((s.i : Int) + 1))) b g cap T (Gram.Rf.adv s) (tO yk yt yn yu ya) #[.int .i64 0, .int .i64 0, .string ⟨#[]⟩, .int .i64 0, .int .i64 0, .int .i64 0, .int .i64 0, .slice none 0 0, .int .i64 (ya : Int)] := H.adv hi
  go_enter Tryz.func185, Tryz.ntmps185
  refine Hid.out ?_
  have hcc := rtake_any b g cap T (Gram.Rf.adv s) ⟨#[40]⟩ _ H.p
  have hzp1 := Wd.sz H
  rw [show ((⟨#[40]⟩ : ByteArray)).data.toList = [40] from rfl] at hcc
  have HHH := ld H
  clear H
  refine ld ?_
  go_wp2_with (go_at_call 99; refine hcc.mono ?_; rintro e w11 ⟨rfl, hpz, hgz⟩; refine Hid.out ?_)
  have H := HHH.out
  clear HHH hcc
  have hsz1 := hgz.size
  have H : Wd w (w11) b g cap T (Gram.Rf.take T [40] (Gram.Rf.adv s)) (tO yk yt yn yu ya) #[.int .i64 0, .int .i64 0, .string ⟨#[]⟩, .int .i64 0, .int .i64 0, .int .i64 0, .int .i64 0, .slice none 0 0, .int .i64 (ya : Int)] := H.step hgz hpz
  have hzq1 := Wd.sz H
  have hgk := hgz
  clear hgz hpz
  obtain ⟨c0, c1, c2, c3, c4, c5, c6, c7, c8, cf⟩ := Nc.of H.x'
  have ct := Wd.text H
  have H : Wd w ((w11).setCell ⟨w.heap.size + 1 + 1, 0, none⟩ (.int .i64 9)) b g cap T (Gram.Rf.take T [40] (Gram.Rf.adv s)) (tO yk yt yn yu ya) #[.int .i64 9, .int .i64 0, .string ⟨#[]⟩, .int .i64 0, .int .i64 0, .int .i64 0, .int .i64 0, .slice none 0 0, .int .i64 (ya : Int)] := Wd.set h H 0 (.int .i64 9)
  have hcc := hce2 _ H.p
  have hzp2 := Wd.sz H
  have HHH := ld H
  clear H
  refine ld ?_
  go_wp2_with (go_at_call 166; refine hcc.mono ?_; rintro e w12 ⟨k2, rfl, hk2, hpz, hgz⟩; refine Hid.out ?_)
  clear c0 c1 c2 c3 c4 c5 c6 c7 c8 cf ct
  have H := HHH.out
  clear HHH hcc
  have hsz2 := hgz.size
  have H : Wd w (w12) b g cap T (t2) (tO yk yt yn yu ya) #[.int .i64 9, .int .i64 0, .string ⟨#[]⟩, .int .i64 0, .int .i64 0, .int .i64 0, .int .i64 0, .slice none 0 0, .int .i64 (ya : Int)] := H.step hgz hpz
  have hzq2 := Wd.sz H
  have hgk := hgz
  clear hgz hpz
  obtain ⟨c0, c1, c2, c3, c4, c5, c6, c7, c8, cf⟩ := Nc.of H.x'
  have ct := Wd.text H
  obtain ⟨ka2, kn2, kc2, rfl⟩ := hk2.form
  have hkset := RepC.kept (gset (World.grownBy.refl w12 (some (w.heap.size + 1 + 1))) (a := ⟨w.heap.size + 1 + 1, 7, none⟩) (.inr rfl) (.slice (some ⟨w12.heap.size, 0, none⟩) 1 1)) (fun k e => by cases e; omega) (show RepC _ _ [] _ _ from hk2)
  have H : Wd w ((w12).setCell ⟨w.heap.size + 1 + 1, 7, none⟩ (.slice (some ⟨w12.heap.size, 0, none⟩) 1 1)) b g cap T (t2) (tO yk yt yn yu ya) #[.int .i64 9, .int .i64 0, .string ⟨#[]⟩, .int .i64 0, .int .i64 0, .int .i64 0, .int .i64 0, .slice (some ⟨w12.heap.size, 0, none⟩) 1 1, .int .i64 (ya : Int)] := Wd.set h H 7 (.slice (some ⟨w12.heap.size, 0, none⟩) 1 1)
  have H : Wd w (((w12).setCell ⟨w.heap.size + 1 + 1, 7, none⟩ (.slice (some ⟨w12.heap.size, 0, none⟩) 1 1)).alloc (.cells #[.int .i64 f2, .int .i64 s2', .string ⟨nm2.toArray⟩, .int .i64 tk2, .int .i64 tl2, .int .i64 n2', .int .i64 m2, .slice ka2 kn2 kc2, .int .i64 a2] 85)) b g cap T (t2) (tO yk yt yn yu ya) #[.int .i64 9, .int .i64 0, .string ⟨#[]⟩, .int .i64 0, .int .i64 0, .int .i64 0, .int .i64 0, .slice (some ⟨w12.heap.size, 0, none⟩) 1 1, .int .i64 (ya : Int)] := Wd.alloc H (.cells #[.int .i64 f2, .int .i64 s2', .string ⟨nm2.toArray⟩, .int .i64 tk2, .int .i64 tl2, .int .i64 n2', .int .i64 m2, .slice ka2 kn2 kc2, .int .i64 a2] 85)
  have hKL : Kids (((w12).setCell ⟨w.heap.size + 1 + 1, 7, none⟩ (.slice (some ⟨w12.heap.size, 0, none⟩) 1 1)).alloc (.cells #[.int .i64 f2, .int .i64 s2', .string ⟨nm2.toArray⟩, .int .i64 tk2, .int .i64 tl2, .int .i64 n2', .int .i64 m2, .slice ka2 kn2 kc2, .int .i64 a2] 85)) (w.heap.size + 3) [(Gram.Exp.mk f2 s2' nm2 tk2 tl2 n2' m2 ks2 a2)] (.slice (some ⟨w12.heap.size, 0, none⟩) 1 1) := by
   have ho := owns_new (w := w12.setCell ⟨w.heap.size + 1 + 1, 7, none⟩ (.slice (some ⟨w12.heap.size, 0, none⟩) 1 1)) (B := w.heap.size + 3) 85 9 1 (expCells (Gram.Exp.mk f2 s2' nm2 tk2 tl2 n2' m2 ks2 a2) (.slice ka2 kn2 kc2)) (by rw [size_set]; omega) rfl (by unfold maxLen; omega)
   rw [size_set] at ho
   exact KidsX.one' ho (fun k e => by cases e) (RepC.kept (ga _ _ none) (fun k e => by cases e) (RepC.mono (by omega) hkset))
  clear hkset hk2
  have hcc := rtake_any b g cap T (t2) ⟨#[44]⟩ _ H.p
  have hzp3 := Wd.sz H
  rw [show ((⟨#[44]⟩ : ByteArray)).data.toList = [44] from rfl] at hcc
  have HHH := ld H
  clear H
  refine ld ?_
  go_wp2_with (go_at_call 99; refine hcc.mono ?_; rintro e w13 ⟨rfl, hpz, hgz⟩; refine Hid.out ?_)
  clear c0 c1 c2 c3 c4 c5 c6 c7 c8 cf ct
  have H := HHH.out
  clear HHH hcc
  have hsz3 := hgz.size
  have H : Wd w (w13) b g cap T (Gram.Rf.take T [44] (t2)) (tO yk yt yn yu ya) #[.int .i64 9, .int .i64 0, .string ⟨#[]⟩, .int .i64 0, .int .i64 0, .int .i64 0, .int .i64 0, .slice (some ⟨w12.heap.size, 0, none⟩) 1 1, .int .i64 (ya : Int)] := H.step hgz hpz
  have hzq3 := Wd.sz H
  have hgk := hgz
  clear hgz hpz
  obtain ⟨c0, c1, c2, c3, c4, c5, c6, c7, c8, cf⟩ := Nc.of H.x'
  have ct := Wd.text H
  have hKL := Kids.kept hKL hgk (by omega)
  have hcc := hce3 _ H.p
  have hzp4 := Wd.sz H
  have HHH := ld H
  clear H
  refine ld ?_
  go_wp2_with (go_at_call 164; refine hcc.mono ?_; rintro e w14 ⟨rfl, hpz, hgz⟩; refine Hid.out ?_)
  clear c0 c1 c2 c3 c4 c5 c6 c7 c8 cf ct
  have H := HHH.out
  clear HHH hcc
  have hsz4 := hgz.size
  have H : Wd w (w14) b g cap T (t3) (tO yk yt yn yu ya) #[.int .i64 9, .int .i64 0, .string ⟨#[]⟩, .int .i64 0, .int .i64 0, .int .i64 0, .int .i64 0, .slice (some ⟨w12.heap.size, 0, none⟩) 1 1, .int .i64 (ya : Int)] := H.step hgz hpz
  have hzq4 := Wd.sz H
  have hgk := hgz
  clear hgz hpz
  obtain ⟨c0, c1, c2, c3, c4, c5, c6, c7, c8, cf⟩ := Nc.of H.x'
  have ct := Wd.text H
  have hKL := Kids.kept hKL hgk (by omega)
  have H : Wd w ((w14).setCell ⟨w.heap.size + 1 + 1, 2, none⟩ (.string ⟨gn.toArray⟩)) b g cap T (t3) (tO yk yt yn yu ya) #[.int .i64 9, .int .i64 0, .string ⟨gn.toArray⟩, .int .i64 0, .int .i64 0, .int .i64 0, .int .i64 0, .slice (some ⟨w12.heap.size, 0, none⟩) 1 1, .int .i64 (ya : Int)] := Wd.set h H 2 (.string ⟨gn.toArray⟩)
  have hKL := Kids.setX (w := w) (by omega) 2 (.string ⟨gn.toArray⟩) hKL
  have H : Wd w (((w14).setCell ⟨w.heap.size + 1 + 1, 2, none⟩ (.string ⟨gn.toArray⟩)).alloc (.cells #[.string ⟨gn.toArray⟩, .bool false] 92)) b g cap T (t3) (tO yk yt yn yu ya) #[.int .i64 9, .int .i64 0, .string ⟨gn.toArray⟩, .int .i64 0, .int .i64 0, .int .i64 0, .int .i64 0, .slice (some ⟨w12.heap.size, 0, none⟩) 1 1, .int .i64 (ya : Int)] := Wd.alloc H (.cells #[.string ⟨gn.toArray⟩, .bool false] 92)
  have hKL := Kids.kept0 hKL (ga _ (.cells #[.string ⟨gn.toArray⟩, .bool false] 92) none)
  have hcc := rtake_any b g cap T (t3) ⟨#[41]⟩ _ H.p
  have hzp5 := Wd.sz H
  rw [show ((⟨#[41]⟩ : ByteArray)).data.toList = [41] from rfl] at hcc
  have HHH := ld H
  clear H
  refine ld ?_
  go_wp2_with (go_at_call 99; refine hcc.mono ?_; rintro e w15 ⟨rfl, hpz, hgz⟩; refine Hid.out ?_)
  clear c0 c1 c2 c3 c4 c5 c6 c7 c8 cf ct
  have H := HHH.out
  clear HHH hcc
  have hsz5 := hgz.size
  have H : Wd w (w15) b g cap T (Gram.Rf.take T [41] (t3)) (tO yk yt yn yu ya) #[.int .i64 9, .int .i64 0, .string ⟨gn.toArray⟩, .int .i64 0, .int .i64 0, .int .i64 0, .int .i64 0, .slice (some ⟨w12.heap.size, 0, none⟩) 1 1, .int .i64 (ya : Int)] := H.step hgz hpz
  have hzq5 := Wd.sz H
  have hgk := hgz
  clear hgz hpz
  obtain ⟨c0, c1, c2, c3, c4, c5, c6, c7, c8, cf⟩ := Nc.of H.x'
  have ct := Wd.text H
  have hKL := Kids.kept hKL hgk (by omega)
  have HF := ld H
  have hr1 := H.r
  have hgx := H.g'
  clear H
  refine ld ?_
  go_wp2_with (with_reducible refine hold_st 4 ?_)
  refine wpList_store_gen rfl _ _ _ rfl (w.heap.size + 1) #[.int .i64 9, .int .i64 0, .string ⟨gn.toArray⟩, .int .i64 0, .int .i64 0, .int .i64 0, .int .i64 0, .slice (some ⟨w12.heap.size, 0, none⟩) 1 1, .int .i64 (ya : Int)] rfl rfl 85 _ hr1 (by kernel_rfl) rfl (by simp [Value.oneCell']) ?_
  intro w9 hh9 hg9
  go_wp2
  (try simp only [Exit.inBlock, Exit.then])
  refine br hh9 Tryz.underlying85 ?_
  have hG : w.grownBy w9 (some b) := hgx.andThen hg9 (fun j e => .inl (by cases e; omega))
  exact ⟨_, rfl, RepC.mono (by omega) (RepC.kept hg9 (fun k e => by cases e; omega) hKL), HH.out.to hG (HF.out.p.st.kept hg9 (by simp; omega)) HF.out.p.lt, hG⟩
end
section
variable (b g cap : Nat) (T : List Lex.Tk)
theorem rword_tick (f : Nat) (hC : ∀ f', f' ≤ f → CRex b g cap T 166 (Gram.Rf.exp T f')) (s : Gram.Rf.St) (w : World) (h : Rp w b g cap T s) (yk yn yu : Int) (yt : List UInt8) (ya : Nat) (hw : yt = [116, 105, 99, 107]) (hi : s.i + 1 < T.length) (hf : (Gram.Rf.wordE T (f + 1) ⟨yk, yt, yn, yu, ya⟩ s).isSome = true) :
  Calls Tryz.prog 185 #[.pointer (some ⟨b, 0, none⟩), .agg #[.int .i64 yk, .string ⟨yt.toArray⟩, .int .i64 yn, .int .i64 yu, .int .i64 0, .int .i64 (ya : Int)]] w fun e w' => rePost w b g cap T (Gram.Rf.wordE T (f + 1) ⟨yk, yt, yn, yu, ya⟩ s) e w' := by
 have hbw := h.bl
 have hm := h.toks.most
 have HH := ld h
 have p1 := h.st.c1
 have fr1 := h.st.fr 1
 have nb0 : ¬ b = w.heap.size := by omega
 have nb1 : ¬ b = w.heap.size + 1 := by omega
 have nb2 : ¬ b = w.heap.size + 1 + 1 := by omega
 have nb3 : ¬ b = w.heap.size + 1 + 1 := by omega
 rw [Gram.Rf.wordE] at hf ⊢
 simp only at hf ⊢
 rw [if_neg (show ¬ yt = [116, 114, 117, 101] by rw [hw]; decide)] at hf ⊢
 rw [if_neg (show ¬ yt = [102, 97, 108, 115, 101] by rw [hw]; decide)] at hf ⊢
 rw [if_neg (show ¬ yt = [105, 102] by rw [hw]; decide)] at hf ⊢
 rw [if_neg (show ¬ yt = [119, 104, 101, 110] by rw [hw]; decide)] at hf ⊢
 rw [if_neg (show ¬ yt = [109, 101, 114, 103, 101] by rw [hw]; decide)] at hf ⊢
 rw [if_neg (show ¬ yt = [99, 97, 115, 116] by rw [hw]; decide)] at hf ⊢
 rw [if_pos (show yt = [116, 105, 99, 107] from hw)] at hf ⊢
 have e_true : (yt == [116, 114, 117, 101]) = false := by rw [hw]; rfl
 have e_false : (yt == [102, 97, 108, 115, 101]) = false := by rw [hw]; rfl
 have e_if : (yt == [105, 102]) = false := by rw [hw]; rfl
 have e_when : (yt == [119, 104, 101, 110]) = false := by rw [hw]; rfl
 have e_merge : (yt == [109, 101, 114, 103, 101]) = false := by rw [hw]; rfl
 have e_cast : (yt == [99, 97, 115, 116]) = false := by rw [hw]; rfl
 have e_tick : (yt == [116, 105, 99, 107]) = true := by rw [hw]; rfl
 have e_reset : (yt == [114, 101, 115, 101, 116]) = false := by rw [hw]; rfl
 have e_rep : (yt == [114, 101, 112]) = false := by rw [hw]; rfl
 have e_map : (yt == [109, 97, 112]) = false := by rw [hw]; rfl
 have e_fold : (yt == [102, 111, 108, 100]) = false := by rw [hw]; rfl
 clear hf
 clear hw
 have H : Wd w ((((w.alloc (tO yk yt yn yu ya)).alloc exp0).alloc (.cells #[.int .i64 0, .int .i64 0, .string ⟨#[]⟩, .int .i64 0, .int .i64 0, .int .i64 0, .int .i64 0, .slice none 0 0, .int .i64 (ya : Int)] 85))) b g cap T (s) (tO yk yt yn yu ya) #[.int .i64 0, .int .i64 0, .string ⟨#[]⟩, .int .i64 0, .int .i64 0, .int .i64 0, .int .i64 0, .slice none 0 0, .int .i64 (ya : Int)] := ⟨((h.alloc _).alloc _).alloc _, galloc (galloc (galloc (World.grownBy.refl w (some b)) _) _) _, heap3_0 w _ _ _, heap3_1 w _ _ _, heap3_2 w _ _ _, hbw⟩
 have q1 := H.p.st.c1
 have qf := H.p.st.fr 1
 unfold exp0 at q1 qf
 have H : Wd w (((((w.alloc (tO yk yt yn yu ya)).alloc exp0).alloc (.cells #[.int .i64 0, .int .i64 0, .string ⟨#[]⟩, .int .i64 0, .int .i64 0, .int .i64 0, .int .i64 0, .slice none 0 0, .int .i64 (ya : Int)] 85))).setCell ⟨b, 1, none⟩ (.int .i64 ((s.i : Int) + 1))) b g cap T (Gram.Rf.adv s) (tO yk yt yn yu ya) #[.int .i64 0, .int .i64 0, .string ⟨#[]⟩, .int .i64 0, .int .i64 0, .int .i64 0, .int .i64 0, .slice none 0 0, .int .i64 (ya : Int)] := H.adv hi
 go_enter Tryz.func185, Tryz.ntmps185
 refine Hid.out ?_
 have hcc := rtake_any b g cap T (Gram.Rf.adv s) ⟨#[40]⟩ _ H.p
 have hzp1 := Wd.sz H
 rw [show ((⟨#[40]⟩ : ByteArray)).data.toList = [40] from rfl] at hcc
 have HHH := ld H
 clear H
 refine ld ?_
 go_wp2_with (go_at_call 99; refine hcc.mono ?_; rintro e w11 ⟨rfl, hpz, hgz⟩; refine Hid.out ?_)
 have H := HHH.out
 clear HHH hcc
 have hsz1 := hgz.size
 have H : Wd w (w11) b g cap T (Gram.Rf.take T [40] (Gram.Rf.adv s)) (tO yk yt yn yu ya) #[.int .i64 0, .int .i64 0, .string ⟨#[]⟩, .int .i64 0, .int .i64 0, .int .i64 0, .int .i64 0, .slice none 0 0, .int .i64 (ya : Int)] := H.step hgz hpz
 have hzq1 := Wd.sz H
 have hgk := hgz
 clear hgz hpz
 obtain ⟨c0, c1, c2, c3, c4, c5, c6, c7, c8, cf⟩ := Nc.of H.x'
 have ct := Wd.text H
 have H : Wd w ((w11).setCell ⟨w.heap.size + 1 + 1, 0, none⟩ (.int .i64 12)) b g cap T (Gram.Rf.take T [40] (Gram.Rf.adv s)) (tO yk yt yn yu ya) #[.int .i64 12, .int .i64 0, .string ⟨#[]⟩, .int .i64 0, .int .i64 0, .int .i64 0, .int .i64 0, .slice none 0 0, .int .i64 (ya : Int)] := Wd.set h H 0 (.int .i64 12)
 have hcc := rsize_any b g cap T (Gram.Rf.take T [40] (Gram.Rf.adv s)) _ H.p
 have hzp2 := Wd.sz H
 have HHH := ld H
 clear H
 refine ld ?_
 go_wp2_with (go_at_call 163; refine hcc.mono ?_; rintro e w12 ⟨rfl, hpz, hgz⟩; refine Hid.out ?_)
 clear c0 c1 c2 c3 c4 c5 c6 c7 c8 cf ct
 have H := HHH.out
 clear HHH hcc
 have hsz2 := hgz.size
 have H : Wd w (w12) b g cap T ((Gram.Rf.size T (Gram.Rf.take T [40] (Gram.Rf.adv s))).2) (tO yk yt yn yu ya) #[.int .i64 12, .int .i64 0, .string ⟨#[]⟩, .int .i64 0, .int .i64 0, .int .i64 0, .int .i64 0, .slice none 0 0, .int .i64 (ya : Int)] := H.step hgz hpz
 have hzq2 := Wd.sz H
 have hgk := hgz
 clear hgz hpz
 obtain ⟨c0, c1, c2, c3, c4, c5, c6, c7, c8, cf⟩ := Nc.of H.x'
 have ct := Wd.text H
 have H : Wd w ((w12).setCell ⟨w.heap.size + 1 + 1, 5, none⟩ (.int .i64 (Gram.Rf.size T (Gram.Rf.take T [40] (Gram.Rf.adv s))).1)) b g cap T ((Gram.Rf.size T (Gram.Rf.take T [40] (Gram.Rf.adv s))).2) (tO yk yt yn yu ya) #[.int .i64 12, .int .i64 0, .string ⟨#[]⟩, .int .i64 0, .int .i64 0, .int .i64 (Gram.Rf.size T (Gram.Rf.take T [40] (Gram.Rf.adv s))).1, .int .i64 0, .slice none 0 0, .int .i64 (ya : Int)] := Wd.set h H 5 (.int .i64 (Gram.Rf.size T (Gram.Rf.take T [40] (Gram.Rf.adv s))).1)
 have hcc := rtake_any b g cap T ((Gram.Rf.size T (Gram.Rf.take T [40] (Gram.Rf.adv s))).2) ⟨#[44]⟩ _ H.p
 have hzp3 := Wd.sz H
 rw [show ((⟨#[44]⟩ : ByteArray)).data.toList = [44] from rfl] at hcc
 have HHH := ld H
 clear H
 refine ld ?_
 go_wp2_with (go_at_call 99; refine hcc.mono ?_; rintro e w13 ⟨rfl, hpz, hgz⟩; refine Hid.out ?_)
 clear c0 c1 c2 c3 c4 c5 c6 c7 c8 cf ct
 have H := HHH.out
 clear HHH hcc
 have hsz3 := hgz.size
 have H : Wd w (w13) b g cap T (Gram.Rf.take T [44] ((Gram.Rf.size T (Gram.Rf.take T [40] (Gram.Rf.adv s))).2)) (tO yk yt yn yu ya) #[.int .i64 12, .int .i64 0, .string ⟨#[]⟩, .int .i64 0, .int .i64 0, .int .i64 (Gram.Rf.size T (Gram.Rf.take T [40] (Gram.Rf.adv s))).1, .int .i64 0, .slice none 0 0, .int .i64 (ya : Int)] := H.step hgz hpz
 have hzq3 := Wd.sz H
 have hgk := hgz
 clear hgz hpz
 obtain ⟨c0, c1, c2, c3, c4, c5, c6, c7, c8, cf⟩ := Nc.of H.x'
 have ct := Wd.text H
 have hcc := rsize_any b g cap T (Gram.Rf.take T [44] ((Gram.Rf.size T (Gram.Rf.take T [40] (Gram.Rf.adv s))).2)) _ H.p
 have hzp4 := Wd.sz H
 have HHH := ld H
 clear H
 refine ld ?_
 go_wp2_with (go_at_call 163; refine hcc.mono ?_; rintro e w14 ⟨rfl, hpz, hgz⟩; refine Hid.out ?_)
 clear c0 c1 c2 c3 c4 c5 c6 c7 c8 cf ct
 have H := HHH.out
 clear HHH hcc
 have hsz4 := hgz.size
 have H : Wd w (w14) b g cap T ((Gram.Rf.size T (Gram.Rf.take T [44] ((Gram.Rf.size T (Gram.Rf.take T [40] (Gram.Rf.adv s))).2))).2) (tO yk yt yn yu ya) #[.int .i64 12, .int .i64 0, .string ⟨#[]⟩, .int .i64 0, .int .i64 0, .int .i64 (Gram.Rf.size T (Gram.Rf.take T [40] (Gram.Rf.adv s))).1, .int .i64 0, .slice none 0 0, .int .i64 (ya : Int)] := H.step hgz hpz
 have hzq4 := Wd.sz H
 have hgk := hgz
 clear hgz hpz
 obtain ⟨c0, c1, c2, c3, c4, c5, c6, c7, c8, cf⟩ := Nc.of H.x'
 have ct := Wd.text H
 have H : Wd w ((w14).setCell ⟨w.heap.size + 1 + 1, 6, none⟩ (.int .i64 (Gram.Rf.size T (Gram.Rf.take T [44] ((Gram.Rf.size T (Gram.Rf.take T [40] (Gram.Rf.adv s))).2))).1)) b g cap T ((Gram.Rf.size T (Gram.Rf.take T [44] ((Gram.Rf.size T (Gram.Rf.take T [40] (Gram.Rf.adv s))).2))).2) (tO yk yt yn yu ya) #[.int .i64 12, .int .i64 0, .string ⟨#[]⟩, .int .i64 0, .int .i64 0, .int .i64 (Gram.Rf.size T (Gram.Rf.take T [40] (Gram.Rf.adv s))).1, .int .i64 (Gram.Rf.size T (Gram.Rf.take T [44] ((Gram.Rf.size T (Gram.Rf.take T [40] (Gram.Rf.adv s))).2))).1, .slice none 0 0, .int .i64 (ya : Int)] := Wd.set h H 6 (.int .i64 (Gram.Rf.size T (Gram.Rf.take T [44] ((Gram.Rf.size T (Gram.Rf.take T [40] (Gram.Rf.adv s))).2))).1)
 have hcc := rtake_any b g cap T ((Gram.Rf.size T (Gram.Rf.take T [44] ((Gram.Rf.size T (Gram.Rf.take T [40] (Gram.Rf.adv s))).2))).2) ⟨#[41]⟩ _ H.p
 have hzp5 := Wd.sz H
 rw [show ((⟨#[41]⟩ : ByteArray)).data.toList = [41] from rfl] at hcc
 have HHH := ld H
 clear H
 refine ld ?_
 go_wp2_with (go_at_call 99; refine hcc.mono ?_; rintro e w15 ⟨rfl, hpz, hgz⟩; refine Hid.out ?_)
 clear c0 c1 c2 c3 c4 c5 c6 c7 c8 cf ct
 have H := HHH.out
 clear HHH hcc
 have hsz5 := hgz.size
 have H : Wd w (w15) b g cap T (Gram.Rf.take T [41] ((Gram.Rf.size T (Gram.Rf.take T [44] ((Gram.Rf.size T (Gram.Rf.take T [40] (Gram.Rf.adv s))).2))).2)) (tO yk yt yn yu ya) #[.int .i64 12, .int .i64 0, .string ⟨#[]⟩, .int .i64 0, .int .i64 0, .int .i64 (Gram.Rf.size T (Gram.Rf.take T [40] (Gram.Rf.adv s))).1, .int .i64 (Gram.Rf.size T (Gram.Rf.take T [44] ((Gram.Rf.size T (Gram.Rf.take T [40] (Gram.Rf.adv s))).2))).1, .slice none 0 0, .int .i64 (ya : Int)] := H.step hgz hpz
 have hzq5 := Wd.sz H
 have hgk := hgz
 clear hgz hpz
 obtain ⟨c0, c1, c2, c3, c4, c5, c6, c7, c8, cf⟩ := Nc.of H.x'
 have ct := Wd.text H
 have HF := ld H
 have hr1 := H.r
 have hgx := H.g'
 clear H
 refine ld ?_
 go_wp2_with (with_reducible refine hold_st 4 ?_)
 refine wpList_store_gen rfl _ _ _ rfl (w.heap.size + 1) #[.int .i64 12, .int .i64 0, .string ⟨#[]⟩, .int .i64 0, .int .i64 0, .int .i64 (Gram.Rf.size T (Gram.Rf.take T [40] (Gram.Rf.adv s))).1, .int .i64 (Gram.Rf.size T (Gram.Rf.take T [44] ((Gram.Rf.size T (Gram.Rf.take T [40] (Gram.Rf.adv s))).2))).1, .slice none 0 0, .int .i64 (ya : Int)] rfl rfl 85 _ hr1 (by kernel_rfl) rfl (by simp [Value.oneCell']) ?_
 intro w9 hh9 hg9
 go_wp2
 (try simp only [Exit.inBlock, Exit.then])
 refine br hh9 Tryz.underlying85 ?_
 have hG : w.grownBy w9 (some b) := hgx.andThen hg9 (fun j e => .inl (by cases e; omega))
 exact ⟨_, rfl, Kids.nil _ _, HH.out.to hG (HF.out.p.st.kept hg9 (by simp; omega)) HF.out.p.lt, hG⟩
end
section
variable (b g cap : Nat) (T : List Lex.Tk)
theorem rword_rep (f : Nat) (hC : ∀ f', f' ≤ f → CRex b g cap T 166 (Gram.Rf.exp T f')) (s : Gram.Rf.St) (w : World) (h : Rp w b g cap T s) (yk yn yu : Int) (yt : List UInt8) (ya : Nat) (hw : yt = [114, 101, 112]) (hi : s.i + 1 < T.length) (hf : (Gram.Rf.wordE T (f + 1) ⟨yk, yt, yn, yu, ya⟩ s).isSome = true) :
  Calls Tryz.prog 185 #[.pointer (some ⟨b, 0, none⟩), .agg #[.int .i64 yk, .string ⟨yt.toArray⟩, .int .i64 yn, .int .i64 yu, .int .i64 0, .int .i64 (ya : Int)]] w fun e w' => rePost w b g cap T (Gram.Rf.wordE T (f + 1) ⟨yk, yt, yn, yu, ya⟩ s) e w' := by
 have hbw := h.bl
 have hm := h.toks.most
 have HH := ld h
 have p1 := h.st.c1
 have fr1 := h.st.fr 1
 have nb0 : ¬ b = w.heap.size := by omega
 have nb1 : ¬ b = w.heap.size + 1 := by omega
 have nb2 : ¬ b = w.heap.size + 1 + 1 := by omega
 have nb3 : ¬ b = w.heap.size + 1 + 1 := by omega
 rw [Gram.Rf.wordE] at hf ⊢
 simp only at hf ⊢
 rw [if_neg (show ¬ yt = [116, 114, 117, 101] by rw [hw]; decide)] at hf ⊢
 rw [if_neg (show ¬ yt = [102, 97, 108, 115, 101] by rw [hw]; decide)] at hf ⊢
 rw [if_neg (show ¬ yt = [105, 102] by rw [hw]; decide)] at hf ⊢
 rw [if_neg (show ¬ yt = [119, 104, 101, 110] by rw [hw]; decide)] at hf ⊢
 rw [if_neg (show ¬ yt = [109, 101, 114, 103, 101] by rw [hw]; decide)] at hf ⊢
 rw [if_neg (show ¬ yt = [99, 97, 115, 116] by rw [hw]; decide)] at hf ⊢
 rw [if_neg (show ¬ yt = [116, 105, 99, 107] by rw [hw]; decide)] at hf ⊢
 rw [if_neg (show ¬ yt = [114, 101, 115, 101, 116] by rw [hw]; decide)] at hf ⊢
 rw [if_pos (show yt = [114, 101, 112] from hw)] at hf ⊢
 have e_true : (yt == [116, 114, 117, 101]) = false := by rw [hw]; rfl
 have e_false : (yt == [102, 97, 108, 115, 101]) = false := by rw [hw]; rfl
 have e_if : (yt == [105, 102]) = false := by rw [hw]; rfl
 have e_when : (yt == [119, 104, 101, 110]) = false := by rw [hw]; rfl
 have e_merge : (yt == [109, 101, 114, 103, 101]) = false := by rw [hw]; rfl
 have e_cast : (yt == [99, 97, 115, 116]) = false := by rw [hw]; rfl
 have e_tick : (yt == [116, 105, 99, 107]) = false := by rw [hw]; rfl
 have e_reset : (yt == [114, 101, 115, 101, 116]) = false := by rw [hw]; rfl
 have e_rep : (yt == [114, 101, 112]) = true := by rw [hw]; rfl
 have e_map : (yt == [109, 97, 112]) = false := by rw [hw]; rfl
 have e_fold : (yt == [102, 111, 108, 100]) = false := by rw [hw]; rfl
 cases hr2 : Gram.Rf.exp T f (Gram.Rf.take T [40] (Gram.Rf.adv s)) with
 | none => rw [hr2] at hf; cases hf
 | some r2 =>
 obtain ⟨x2, t2⟩ := r2
 rw [hr2] at hf
 simp only [Gram.Rf.bindS] at hf ⊢
 cases x2 with
 | mk f2 s2' nm2 tk2 tl2 n2' m2 ks2 a2 =>
 have hce2 : ∀ wx, Rp wx b g cap T (Gram.Rf.take T [40] (Gram.Rf.adv s)) → Calls Tryz.prog 166 #[.pointer (some ⟨b, 0, none⟩)] wx fun e w' => rePost wx b g cap T (some ((Gram.Exp.mk f2 s2' nm2 tk2 tl2 n2' m2 ks2 a2), t2)) e w' := fun wx hx => by
  have := hC f (Nat.le_refl _) (Gram.Rf.take T [40] (Gram.Rf.adv s)) wx hx
  rw [hr2] at this
  exact this rfl
 simp only [rePost, expV] at hce2
 clear hr2
 clear hf
 clear hw
 have H : Wd w ((((w.alloc (tO yk yt yn yu ya)).alloc exp0).alloc (.cells #[.int .i64 0, .int .i64 0, .string ⟨#[]⟩, .int .i64 0, .int .i64 0, .int .i64 0, .int .i64 0, .slice none 0 0, .int .i64 (ya : Int)] 85))) b g cap T (s) (tO yk yt yn yu ya) #[.int .i64 0, .int .i64 0, .string ⟨#[]⟩, .int .i64 0, .int .i64 0, .int .i64 0, .int .i64 0, .slice none 0 0, .int .i64 (ya : Int)] := ⟨((h.alloc _).alloc _).alloc _, galloc (galloc (galloc (World.grownBy.refl w (some b)) _) _) _, heap3_0 w _ _ _, heap3_1 w _ _ _, heap3_2 w _ _ _, hbw⟩
 have q1 := H.p.st.c1
 have qf := H.p.st.fr 1
 unfold exp0 at q1 qf
 have H : Wd w (((((w.alloc (tO yk yt yn yu ya)).alloc exp0).alloc (.cells #[.int .i64 0, .int .i64 0, .string ⟨#[]⟩, .int .i64 0, .int .i64 0, .int .i64 0, .int .i64 0, .slice none 0 0, .int .i64 (ya : Int)] 85))).setCell ⟨b, 1, none⟩ (.int .i64 ((s.i : Int) + 1))) b g cap T (Gram.Rf.adv s) (tO yk yt yn yu ya) #[.int .i64 0, .int .i64 0, .string ⟨#[]⟩, .int .i64 0, .int .i64 0, .int .i64 0, .int .i64 0, .slice none 0 0, .int .i64 (ya : Int)] := H.adv hi
 go_enter Tryz.func185, Tryz.ntmps185
 refine Hid.out ?_
 have hcc := rtake_any b g cap T (Gram.Rf.adv s) ⟨#[40]⟩ _ H.p
 have hzp1 := Wd.sz H
 rw [show ((⟨#[40]⟩ : ByteArray)).data.toList = [40] from rfl] at hcc
 have HHH := ld H
 clear H
 refine ld ?_
 go_wp2_with (go_at_call 99; refine hcc.mono ?_; rintro e w11 ⟨rfl, hpz, hgz⟩; refine Hid.out ?_)
 have H := HHH.out
 clear HHH hcc
 have hsz1 := hgz.size
 have H : Wd w (w11) b g cap T (Gram.Rf.take T [40] (Gram.Rf.adv s)) (tO yk yt yn yu ya) #[.int .i64 0, .int .i64 0, .string ⟨#[]⟩, .int .i64 0, .int .i64 0, .int .i64 0, .int .i64 0, .slice none 0 0, .int .i64 (ya : Int)] := H.step hgz hpz
 have hzq1 := Wd.sz H
 have hgk := hgz
 clear hgz hpz
 obtain ⟨c0, c1, c2, c3, c4, c5, c6, c7, c8, cf⟩ := Nc.of H.x'
 have ct := Wd.text H
 have H : Wd w ((w11).setCell ⟨w.heap.size + 1 + 1, 0, none⟩ (.int .i64 17)) b g cap T (Gram.Rf.take T [40] (Gram.Rf.adv s)) (tO yk yt yn yu ya) #[.int .i64 17, .int .i64 0, .string ⟨#[]⟩, .int .i64 0, .int .i64 0, .int .i64 0, .int .i64 0, .slice none 0 0, .int .i64 (ya : Int)] := Wd.set h H 0 (.int .i64 17)
 have hcc := hce2 _ H.p
 have hzp2 := Wd.sz H
 have HHH := ld H
 clear H
 refine ld ?_
 go_wp2_with (go_at_call 166; refine hcc.mono ?_; rintro e w12 ⟨k2, rfl, hk2, hpz, hgz⟩; refine Hid.out ?_)
 clear c0 c1 c2 c3 c4 c5 c6 c7 c8 cf ct
 have H := HHH.out
 clear HHH hcc
 have hsz2 := hgz.size
 have H : Wd w (w12) b g cap T (t2) (tO yk yt yn yu ya) #[.int .i64 17, .int .i64 0, .string ⟨#[]⟩, .int .i64 0, .int .i64 0, .int .i64 0, .int .i64 0, .slice none 0 0, .int .i64 (ya : Int)] := H.step hgz hpz
 have hzq2 := Wd.sz H
 have hgk := hgz
 clear hgz hpz
 obtain ⟨c0, c1, c2, c3, c4, c5, c6, c7, c8, cf⟩ := Nc.of H.x'
 have ct := Wd.text H
 obtain ⟨ka2, kn2, kc2, rfl⟩ := hk2.form
 have hkset := RepC.kept (gset (World.grownBy.refl w12 (some (w.heap.size + 1 + 1))) (a := ⟨w.heap.size + 1 + 1, 7, none⟩) (.inr rfl) (.slice (some ⟨w12.heap.size, 0, none⟩) 1 1)) (fun k e => by cases e; omega) (show RepC _ _ [] _ _ from hk2)
 have H : Wd w ((w12).setCell ⟨w.heap.size + 1 + 1, 7, none⟩ (.slice (some ⟨w12.heap.size, 0, none⟩) 1 1)) b g cap T (t2) (tO yk yt yn yu ya) #[.int .i64 17, .int .i64 0, .string ⟨#[]⟩, .int .i64 0, .int .i64 0, .int .i64 0, .int .i64 0, .slice (some ⟨w12.heap.size, 0, none⟩) 1 1, .int .i64 (ya : Int)] := Wd.set h H 7 (.slice (some ⟨w12.heap.size, 0, none⟩) 1 1)
 have H : Wd w (((w12).setCell ⟨w.heap.size + 1 + 1, 7, none⟩ (.slice (some ⟨w12.heap.size, 0, none⟩) 1 1)).alloc (.cells #[.int .i64 f2, .int .i64 s2', .string ⟨nm2.toArray⟩, .int .i64 tk2, .int .i64 tl2, .int .i64 n2', .int .i64 m2, .slice ka2 kn2 kc2, .int .i64 a2] 85)) b g cap T (t2) (tO yk yt yn yu ya) #[.int .i64 17, .int .i64 0, .string ⟨#[]⟩, .int .i64 0, .int .i64 0, .int .i64 0, .int .i64 0, .slice (some ⟨w12.heap.size, 0, none⟩) 1 1, .int .i64 (ya : Int)] := Wd.alloc H (.cells #[.int .i64 f2, .int .i64 s2', .string ⟨nm2.toArray⟩, .int .i64 tk2, .int .i64 tl2, .int .i64 n2', .int .i64 m2, .slice ka2 kn2 kc2, .int .i64 a2] 85)
 have hKL : Kids (((w12).setCell ⟨w.heap.size + 1 + 1, 7, none⟩ (.slice (some ⟨w12.heap.size, 0, none⟩) 1 1)).alloc (.cells #[.int .i64 f2, .int .i64 s2', .string ⟨nm2.toArray⟩, .int .i64 tk2, .int .i64 tl2, .int .i64 n2', .int .i64 m2, .slice ka2 kn2 kc2, .int .i64 a2] 85)) (w.heap.size + 3) [(Gram.Exp.mk f2 s2' nm2 tk2 tl2 n2' m2 ks2 a2)] (.slice (some ⟨w12.heap.size, 0, none⟩) 1 1) := by
  have ho := owns_new (w := w12.setCell ⟨w.heap.size + 1 + 1, 7, none⟩ (.slice (some ⟨w12.heap.size, 0, none⟩) 1 1)) (B := w.heap.size + 3) 85 9 1 (expCells (Gram.Exp.mk f2 s2' nm2 tk2 tl2 n2' m2 ks2 a2) (.slice ka2 kn2 kc2)) (by rw [size_set]; omega) rfl (by unfold maxLen; omega)
  rw [size_set] at ho
  exact KidsX.one' ho (fun k e => by cases e) (RepC.kept (ga _ _ none) (fun k e => by cases e) (RepC.mono (by omega) hkset))
 clear hkset hk2
 have hcc := rtake_any b g cap T (t2) ⟨#[44]⟩ _ H.p
 have hzp3 := Wd.sz H
 rw [show ((⟨#[44]⟩ : ByteArray)).data.toList = [44] from rfl] at hcc
 have HHH := ld H
 clear H
 refine ld ?_
 go_wp2_with (go_at_call 99; refine hcc.mono ?_; rintro e w13 ⟨rfl, hpz, hgz⟩; refine Hid.out ?_)
 clear c0 c1 c2 c3 c4 c5 c6 c7 c8 cf ct
 have H := HHH.out
 clear HHH hcc
 have hsz3 := hgz.size
 have H : Wd w (w13) b g cap T (Gram.Rf.take T [44] (t2)) (tO yk yt yn yu ya) #[.int .i64 17, .int .i64 0, .string ⟨#[]⟩, .int .i64 0, .int .i64 0, .int .i64 0, .int .i64 0, .slice (some ⟨w12.heap.size, 0, none⟩) 1 1, .int .i64 (ya : Int)] := H.step hgz hpz
 have hzq3 := Wd.sz H
 have hgk := hgz
 clear hgz hpz
 obtain ⟨c0, c1, c2, c3, c4, c5, c6, c7, c8, cf⟩ := Nc.of H.x'
 have ct := Wd.text H
 have hKL := Kids.kept hKL hgk (by omega)
 have hcc := rsize_any b g cap T (Gram.Rf.take T [44] (t2)) _ H.p
 have hzp4 := Wd.sz H
 have HHH := ld H
 clear H
 refine ld ?_
 go_wp2_with (go_at_call 163; refine hcc.mono ?_; rintro e w14 ⟨rfl, hpz, hgz⟩; refine Hid.out ?_)
 clear c0 c1 c2 c3 c4 c5 c6 c7 c8 cf ct
 have H := HHH.out
 clear HHH hcc
 have hsz4 := hgz.size
 have H : Wd w (w14) b g cap T ((Gram.Rf.size T (Gram.Rf.take T [44] (t2))).2) (tO yk yt yn yu ya) #[.int .i64 17, .int .i64 0, .string ⟨#[]⟩, .int .i64 0, .int .i64 0, .int .i64 0, .int .i64 0, .slice (some ⟨w12.heap.size, 0, none⟩) 1 1, .int .i64 (ya : Int)] := H.step hgz hpz
 have hzq4 := Wd.sz H
 have hgk := hgz
 clear hgz hpz
 obtain ⟨c0, c1, c2, c3, c4, c5, c6, c7, c8, cf⟩ := Nc.of H.x'
 have ct := Wd.text H
 have hKL := Kids.kept hKL hgk (by omega)
 have H : Wd w ((w14).setCell ⟨w.heap.size + 1 + 1, 5, none⟩ (.int .i64 (Gram.Rf.size T (Gram.Rf.take T [44] (t2))).1)) b g cap T ((Gram.Rf.size T (Gram.Rf.take T [44] (t2))).2) (tO yk yt yn yu ya) #[.int .i64 17, .int .i64 0, .string ⟨#[]⟩, .int .i64 0, .int .i64 0, .int .i64 (Gram.Rf.size T (Gram.Rf.take T [44] (t2))).1, .int .i64 0, .slice (some ⟨w12.heap.size, 0, none⟩) 1 1, .int .i64 (ya : Int)] := Wd.set h H 5 (.int .i64 (Gram.Rf.size T (Gram.Rf.take T [44] (t2))).1)
 have hKL := Kids.setX (w := w) (by omega) 5 (.int .i64 (Gram.Rf.size T (Gram.Rf.take T [44] (t2))).1) hKL
 have hcc := rtake_any b g cap T ((Gram.Rf.size T (Gram.Rf.take T [44] (t2))).2) ⟨#[41]⟩ _ H.p
 have hzp5 := Wd.sz H
 rw [show ((⟨#[41]⟩ : ByteArray)).data.toList = [41] from rfl] at hcc
 have HHH := ld H
 clear H
 refine ld ?_
 go_wp2_with (go_at_call 99; refine hcc.mono ?_; rintro e w15 ⟨rfl, hpz, hgz⟩; refine Hid.out ?_)
 clear c0 c1 c2 c3 c4 c5 c6 c7 c8 cf ct
 have H := HHH.out
 clear HHH hcc
 have hsz5 := hgz.size
 have H : Wd w (w15) b g cap T (Gram.Rf.take T [41] ((Gram.Rf.size T (Gram.Rf.take T [44] (t2))).2)) (tO yk yt yn yu ya) #[.int .i64 17, .int .i64 0, .string ⟨#[]⟩, .int .i64 0, .int .i64 0, .int .i64 (Gram.Rf.size T (Gram.Rf.take T [44] (t2))).1, .int .i64 0, .slice (some ⟨w12.heap.size, 0, none⟩) 1 1, .int .i64 (ya : Int)] := H.step hgz hpz
 have hzq5 := Wd.sz H
 have hgk := hgz
 clear hgz hpz
 obtain ⟨c0, c1, c2, c3, c4, c5, c6, c7, c8, cf⟩ := Nc.of H.x'
 have ct := Wd.text H
 have hKL := Kids.kept hKL hgk (by omega)
 have HF := ld H
 have hr1 := H.r
 have hgx := H.g'
 clear H
 refine ld ?_
 go_wp2_with (with_reducible refine hold_st 4 ?_)
 refine wpList_store_gen rfl _ _ _ rfl (w.heap.size + 1) #[.int .i64 17, .int .i64 0, .string ⟨#[]⟩, .int .i64 0, .int .i64 0, .int .i64 (Gram.Rf.size T (Gram.Rf.take T [44] (t2))).1, .int .i64 0, .slice (some ⟨w12.heap.size, 0, none⟩) 1 1, .int .i64 (ya : Int)] rfl rfl 85 _ hr1 (by kernel_rfl) rfl (by simp [Value.oneCell']) ?_
 intro w9 hh9 hg9
 go_wp2
 (try simp only [Exit.inBlock, Exit.then])
 refine br hh9 Tryz.underlying85 ?_
 have hG : w.grownBy w9 (some b) := hgx.andThen hg9 (fun j e => .inl (by cases e; omega))
 exact ⟨_, rfl, RepC.mono (by omega) (RepC.kept hg9 (fun k e => by cases e; omega) hKL), HH.out.to hG (HF.out.p.st.kept hg9 (by simp; omega)) HF.out.p.lt, hG⟩
end
section
variable (b g cap : Nat) (T : List Lex.Tk)
theorem rword_cast (f : Nat) (hC : ∀ f', f' ≤ f → CRex b g cap T 166 (Gram.Rf.exp T f')) (s : Gram.Rf.St) (w : World) (h : Rp w b g cap T s) (yk yn yu : Int) (yt : List UInt8) (ya : Nat) (hw : yt = [99, 97, 115, 116]) (hi : s.i + 1 < T.length) (hf : (Gram.Rf.wordE T (f + 1) ⟨yk, yt, yn, yu, ya⟩ s).isSome = true) :
  Calls Tryz.prog 185 #[.pointer (some ⟨b, 0, none⟩), .agg #[.int .i64 yk, .string ⟨yt.toArray⟩, .int .i64 yn, .int .i64 yu, .int .i64 0, .int .i64 (ya : Int)]] w fun e w' => rePost w b g cap T (Gram.Rf.wordE T (f + 1) ⟨yk, yt, yn, yu, ya⟩ s) e w' := by
 have hbw := h.bl
 have hm := h.toks.most
 have HH := ld h
 have p1 := h.st.c1
 have fr1 := h.st.fr 1
 have nb0 : ¬ b = w.heap.size := by omega
 have nb1 : ¬ b = w.heap.size + 1 := by omega
 have nb2 : ¬ b = w.heap.size + 1 + 1 := by omega
 have nb3 : ¬ b = w.heap.size + 1 + 1 := by omega
 rw [Gram.Rf.wordE] at hf ⊢
 simp only at hf ⊢
 rw [if_neg (show ¬ yt = [116, 114, 117, 101] by rw [hw]; decide)] at hf ⊢
 rw [if_neg (show ¬ yt = [102, 97, 108, 115, 101] by rw [hw]; decide)] at hf ⊢
 rw [if_neg (show ¬ yt = [105, 102] by rw [hw]; decide)] at hf ⊢
 rw [if_neg (show ¬ yt = [119, 104, 101, 110] by rw [hw]; decide)] at hf ⊢
 rw [if_neg (show ¬ yt = [109, 101, 114, 103, 101] by rw [hw]; decide)] at hf ⊢
 rw [if_pos (show yt = [99, 97, 115, 116] from hw)] at hf ⊢
 have e_true : (yt == [116, 114, 117, 101]) = false := by rw [hw]; rfl
 have e_false : (yt == [102, 97, 108, 115, 101]) = false := by rw [hw]; rfl
 have e_if : (yt == [105, 102]) = false := by rw [hw]; rfl
 have e_when : (yt == [119, 104, 101, 110]) = false := by rw [hw]; rfl
 have e_merge : (yt == [109, 101, 114, 103, 101]) = false := by rw [hw]; rfl
 have e_cast : (yt == [99, 97, 115, 116]) = true := by rw [hw]; rfl
 have e_tick : (yt == [116, 105, 99, 107]) = false := by rw [hw]; rfl
 have e_reset : (yt == [114, 101, 115, 101, 116]) = false := by rw [hw]; rfl
 have e_rep : (yt == [114, 101, 112]) = false := by rw [hw]; rfl
 have e_map : (yt == [109, 97, 112]) = false := by rw [hw]; rfl
 have e_fold : (yt == [102, 111, 108, 100]) = false := by rw [hw]; rfl
 cases hr2 : Gram.Rf.exp T f (Gram.Rf.take T [44] (Gram.Rf.kind T (Gram.Rf.take T [40] (Gram.Rf.adv s))).2) with
 | none => rw [hr2] at hf; cases hf
 | some r2 =>
 obtain ⟨x2, t2⟩ := r2
 rw [hr2] at hf
 simp only [Gram.Rf.bindS] at hf ⊢
 cases x2 with
 | mk f2 s2' nm2 tk2 tl2 n2' m2 ks2 a2 =>
 have hce2 : ∀ wx, Rp wx b g cap T (Gram.Rf.take T [44] (Gram.Rf.kind T (Gram.Rf.take T [40] (Gram.Rf.adv s))).2) → Calls Tryz.prog 166 #[.pointer (some ⟨b, 0, none⟩)] wx fun e w' => rePost wx b g cap T (some ((Gram.Exp.mk f2 s2' nm2 tk2 tl2 n2' m2 ks2 a2), t2)) e w' := fun wx hx => by
  have := hC f (Nat.le_refl _) (Gram.Rf.take T [44] (Gram.Rf.kind T (Gram.Rf.take T [40] (Gram.Rf.adv s))).2) wx hx
  rw [hr2] at this
  exact this rfl
 simp only [rePost, expV] at hce2
 clear hr2
 clear hf
 clear hw
 have H : Wd w ((((w.alloc (tO yk yt yn yu ya)).alloc exp0).alloc (.cells #[.int .i64 0, .int .i64 0, .string ⟨#[]⟩, .int .i64 0, .int .i64 0, .int .i64 0, .int .i64 0, .slice none 0 0, .int .i64 (ya : Int)] 85))) b g cap T (s) (tO yk yt yn yu ya) #[.int .i64 0, .int .i64 0, .string ⟨#[]⟩, .int .i64 0, .int .i64 0, .int .i64 0, .int .i64 0, .slice none 0 0, .int .i64 (ya : Int)] := ⟨((h.alloc _).alloc _).alloc _, galloc (galloc (galloc (World.grownBy.refl w (some b)) _) _) _, heap3_0 w _ _ _, heap3_1 w _ _ _, heap3_2 w _ _ _, hbw⟩
 have q1 := H.p.st.c1
 have qf := H.p.st.fr 1
 unfold exp0 at q1 qf
 have H : Wd w (((((w.alloc (tO yk yt yn yu ya)).alloc exp0).alloc (.cells #[.int .i64 0, .int .i64 0, .string ⟨#[]⟩, .int .i64 0, .int .i64 0, .int .i64 0, .int .i64 0, .slice none 0 0, .int .i64 (ya : Int)] 85))).setCell ⟨b, 1, none⟩ (.int .i64 ((s.i : Int) + 1))) b g cap T (Gram.Rf.adv s) (tO yk yt yn yu ya) #[.int .i64 0, .int .i64 0, .string ⟨#[]⟩, .int .i64 0, .int .i64 0, .int .i64 0, .int .i64 0, .slice none 0 0, .int .i64 (ya : Int)] := H.adv hi
 go_enter Tryz.func185, Tryz.ntmps185
 refine Hid.out ?_
 have hcc := rtake_any b g cap T (Gram.Rf.adv s) ⟨#[40]⟩ _ H.p
 have hzp1 := Wd.sz H
 rw [show ((⟨#[40]⟩ : ByteArray)).data.toList = [40] from rfl] at hcc
 have HHH := ld H
 clear H
 refine ld ?_
 go_wp2_with (go_at_call 99; refine hcc.mono ?_; rintro e w11 ⟨rfl, hpz, hgz⟩; refine Hid.out ?_)
 have H := HHH.out
 clear HHH hcc
 have hsz1 := hgz.size
 have H : Wd w (w11) b g cap T (Gram.Rf.take T [40] (Gram.Rf.adv s)) (tO yk yt yn yu ya) #[.int .i64 0, .int .i64 0, .string ⟨#[]⟩, .int .i64 0, .int .i64 0, .int .i64 0, .int .i64 0, .slice none 0 0, .int .i64 (ya : Int)] := H.step hgz hpz
 have hzq1 := Wd.sz H
 have hgk := hgz
 clear hgz hpz
 obtain ⟨c0, c1, c2, c3, c4, c5, c6, c7, c8, cf⟩ := Nc.of H.x'
 have ct := Wd.text H
 have H : Wd w ((w11).setCell ⟨w.heap.size + 1 + 1, 0, none⟩ (.int .i64 11)) b g cap T (Gram.Rf.take T [40] (Gram.Rf.adv s)) (tO yk yt yn yu ya) #[.int .i64 11, .int .i64 0, .string ⟨#[]⟩, .int .i64 0, .int .i64 0, .int .i64 0, .int .i64 0, .slice none 0 0, .int .i64 (ya : Int)] := Wd.set h H 0 (.int .i64 11)
 have hcc := rkindm_any b g cap T (Gram.Rf.take T [40] (Gram.Rf.adv s)) _ H.p
 have hzp2 := Wd.sz H
 have HHH := ld H
 clear H
 refine ld ?_
 go_wp2_with (go_at_call 162; refine hcc.mono ?_; rintro e w12 ⟨rfl, hpz, hgz⟩; refine Hid.out ?_)
 clear c0 c1 c2 c3 c4 c5 c6 c7 c8 cf ct
 have H := HHH.out
 clear HHH hcc
 have hsz2 := hgz.size
 have H : Wd w (w12) b g cap T ((Gram.Rf.kind T (Gram.Rf.take T [40] (Gram.Rf.adv s))).2) (tO yk yt yn yu ya) #[.int .i64 11, .int .i64 0, .string ⟨#[]⟩, .int .i64 0, .int .i64 0, .int .i64 0, .int .i64 0, .slice none 0 0, .int .i64 (ya : Int)] := H.step hgz hpz
 have hzq2 := Wd.sz H
 have hgk := hgz
 clear hgz hpz
 obtain ⟨c0, c1, c2, c3, c4, c5, c6, c7, c8, cf⟩ := Nc.of H.x'
 have ct := Wd.text H
 have H : Wd w ((w12).setCell ⟨w.heap.size + 1 + 1, 3, none⟩ (.int .i64 (Gram.Rf.kind T (Gram.Rf.take T [40] (Gram.Rf.adv s))).1)) b g cap T ((Gram.Rf.kind T (Gram.Rf.take T [40] (Gram.Rf.adv s))).2) (tO yk yt yn yu ya) #[.int .i64 11, .int .i64 0, .string ⟨#[]⟩, .int .i64 (Gram.Rf.kind T (Gram.Rf.take T [40] (Gram.Rf.adv s))).1, .int .i64 0, .int .i64 0, .int .i64 0, .slice none 0 0, .int .i64 (ya : Int)] := Wd.set h H 3 (.int .i64 (Gram.Rf.kind T (Gram.Rf.take T [40] (Gram.Rf.adv s))).1)
 have H : Wd w (((w12).setCell ⟨w.heap.size + 1 + 1, 3, none⟩ (.int .i64 (Gram.Rf.kind T (Gram.Rf.take T [40] (Gram.Rf.adv s))).1)).setCell ⟨w.heap.size + 1 + 1, 4, none⟩ (.int .i64 0)) b g cap T ((Gram.Rf.kind T (Gram.Rf.take T [40] (Gram.Rf.adv s))).2) (tO yk yt yn yu ya) #[.int .i64 11, .int .i64 0, .string ⟨#[]⟩, .int .i64 (Gram.Rf.kind T (Gram.Rf.take T [40] (Gram.Rf.adv s))).1, .int .i64 0, .int .i64 0, .int .i64 0, .slice none 0 0, .int .i64 (ya : Int)] := Wd.set h H 4 (.int .i64 0)
 have hcc := rtake_any b g cap T ((Gram.Rf.kind T (Gram.Rf.take T [40] (Gram.Rf.adv s))).2) ⟨#[44]⟩ _ H.p
 have hzp3 := Wd.sz H
 rw [show ((⟨#[44]⟩ : ByteArray)).data.toList = [44] from rfl] at hcc
 have HHH := ld H
 clear H
 refine ld ?_
 go_wp2_with (go_at_call 99; refine hcc.mono ?_; rintro e w13 ⟨rfl, hpz, hgz⟩; refine Hid.out ?_)
 clear c0 c1 c2 c3 c4 c5 c6 c7 c8 cf ct
 have H := HHH.out
 clear HHH hcc
 have hsz3 := hgz.size
 have H : Wd w (w13) b g cap T (Gram.Rf.take T [44] ((Gram.Rf.kind T (Gram.Rf.take T [40] (Gram.Rf.adv s))).2)) (tO yk yt yn yu ya) #[.int .i64 11, .int .i64 0, .string ⟨#[]⟩, .int .i64 (Gram.Rf.kind T (Gram.Rf.take T [40] (Gram.Rf.adv s))).1, .int .i64 0, .int .i64 0, .int .i64 0, .slice none 0 0, .int .i64 (ya : Int)] := H.step hgz hpz
 have hzq3 := Wd.sz H
 have hgk := hgz
 clear hgz hpz
 obtain ⟨c0, c1, c2, c3, c4, c5, c6, c7, c8, cf⟩ := Nc.of H.x'
 have ct := Wd.text H
 have hcc := hce2 _ H.p
 have hzp4 := Wd.sz H
 have HHH := ld H
 clear H
 refine ld ?_
 go_wp2_with (go_at_call 166; refine hcc.mono ?_; rintro e w14 ⟨k2, rfl, hk2, hpz, hgz⟩; refine Hid.out ?_)
 clear c0 c1 c2 c3 c4 c5 c6 c7 c8 cf ct
 have H := HHH.out
 clear HHH hcc
 have hsz4 := hgz.size
 have H : Wd w (w14) b g cap T (t2) (tO yk yt yn yu ya) #[.int .i64 11, .int .i64 0, .string ⟨#[]⟩, .int .i64 (Gram.Rf.kind T (Gram.Rf.take T [40] (Gram.Rf.adv s))).1, .int .i64 0, .int .i64 0, .int .i64 0, .slice none 0 0, .int .i64 (ya : Int)] := H.step hgz hpz
 have hzq4 := Wd.sz H
 have hgk := hgz
 clear hgz hpz
 obtain ⟨c0, c1, c2, c3, c4, c5, c6, c7, c8, cf⟩ := Nc.of H.x'
 have ct := Wd.text H
 obtain ⟨ka2, kn2, kc2, rfl⟩ := hk2.form
 have hkset := RepC.kept (gset (World.grownBy.refl w14 (some (w.heap.size + 1 + 1))) (a := ⟨w.heap.size + 1 + 1, 7, none⟩) (.inr rfl) (.slice (some ⟨w14.heap.size, 0, none⟩) 1 1)) (fun k e => by cases e; omega) (show RepC _ _ [] _ _ from hk2)
 have H : Wd w ((w14).setCell ⟨w.heap.size + 1 + 1, 7, none⟩ (.slice (some ⟨w14.heap.size, 0, none⟩) 1 1)) b g cap T (t2) (tO yk yt yn yu ya) #[.int .i64 11, .int .i64 0, .string ⟨#[]⟩, .int .i64 (Gram.Rf.kind T (Gram.Rf.take T [40] (Gram.Rf.adv s))).1, .int .i64 0, .int .i64 0, .int .i64 0, .slice (some ⟨w14.heap.size, 0, none⟩) 1 1, .int .i64 (ya : Int)] := Wd.set h H 7 (.slice (some ⟨w14.heap.size, 0, none⟩) 1 1)
 have H : Wd w (((w14).setCell ⟨w.heap.size + 1 + 1, 7, none⟩ (.slice (some ⟨w14.heap.size, 0, none⟩) 1 1)).alloc (.cells #[.int .i64 f2, .int .i64 s2', .string ⟨nm2.toArray⟩, .int .i64 tk2, .int .i64 tl2, .int .i64 n2', .int .i64 m2, .slice ka2 kn2 kc2, .int .i64 a2] 85)) b g cap T (t2) (tO yk yt yn yu ya) #[.int .i64 11, .int .i64 0, .string ⟨#[]⟩, .int .i64 (Gram.Rf.kind T (Gram.Rf.take T [40] (Gram.Rf.adv s))).1, .int .i64 0, .int .i64 0, .int .i64 0, .slice (some ⟨w14.heap.size, 0, none⟩) 1 1, .int .i64 (ya : Int)] := Wd.alloc H (.cells #[.int .i64 f2, .int .i64 s2', .string ⟨nm2.toArray⟩, .int .i64 tk2, .int .i64 tl2, .int .i64 n2', .int .i64 m2, .slice ka2 kn2 kc2, .int .i64 a2] 85)
 have hKL : Kids (((w14).setCell ⟨w.heap.size + 1 + 1, 7, none⟩ (.slice (some ⟨w14.heap.size, 0, none⟩) 1 1)).alloc (.cells #[.int .i64 f2, .int .i64 s2', .string ⟨nm2.toArray⟩, .int .i64 tk2, .int .i64 tl2, .int .i64 n2', .int .i64 m2, .slice ka2 kn2 kc2, .int .i64 a2] 85)) (w.heap.size + 3) [(Gram.Exp.mk f2 s2' nm2 tk2 tl2 n2' m2 ks2 a2)] (.slice (some ⟨w14.heap.size, 0, none⟩) 1 1) := by
  have ho := owns_new (w := w14.setCell ⟨w.heap.size + 1 + 1, 7, none⟩ (.slice (some ⟨w14.heap.size, 0, none⟩) 1 1)) (B := w.heap.size + 3) 85 9 1 (expCells (Gram.Exp.mk f2 s2' nm2 tk2 tl2 n2' m2 ks2 a2) (.slice ka2 kn2 kc2)) (by rw [size_set]; omega) rfl (by unfold maxLen; omega)
  rw [size_set] at ho
  exact KidsX.one' ho (fun k e => by cases e) (RepC.kept (ga _ _ none) (fun k e => by cases e) (RepC.mono (by omega) hkset))
 clear hkset hk2
 have hcc := rtake_any b g cap T (t2) ⟨#[41]⟩ _ H.p
 have hzp5 := Wd.sz H
 rw [show ((⟨#[41]⟩ : ByteArray)).data.toList = [41] from rfl] at hcc
 have HHH := ld H
 clear H
 refine ld ?_
 go_wp2_with (go_at_call 99; refine hcc.mono ?_; rintro e w15 ⟨rfl, hpz, hgz⟩; refine Hid.out ?_)
 clear c0 c1 c2 c3 c4 c5 c6 c7 c8 cf ct
 have H := HHH.out
 clear HHH hcc
 have hsz5 := hgz.size
 have H : Wd w (w15) b g cap T (Gram.Rf.take T [41] (t2)) (tO yk yt yn yu ya) #[.int .i64 11, .int .i64 0, .string ⟨#[]⟩, .int .i64 (Gram.Rf.kind T (Gram.Rf.take T [40] (Gram.Rf.adv s))).1, .int .i64 0, .int .i64 0, .int .i64 0, .slice (some ⟨w14.heap.size, 0, none⟩) 1 1, .int .i64 (ya : Int)] := H.step hgz hpz
 have hzq5 := Wd.sz H
 have hgk := hgz
 clear hgz hpz
 obtain ⟨c0, c1, c2, c3, c4, c5, c6, c7, c8, cf⟩ := Nc.of H.x'
 have ct := Wd.text H
 have hKL := Kids.kept hKL hgk (by omega)
 have HF := ld H
 have hr1 := H.r
 have hgx := H.g'
 clear H
 refine ld ?_
 go_wp2_with (with_reducible refine hold_st 4 ?_)
 refine wpList_store_gen rfl _ _ _ rfl (w.heap.size + 1) #[.int .i64 11, .int .i64 0, .string ⟨#[]⟩, .int .i64 (Gram.Rf.kind T (Gram.Rf.take T [40] (Gram.Rf.adv s))).1, .int .i64 0, .int .i64 0, .int .i64 0, .slice (some ⟨w14.heap.size, 0, none⟩) 1 1, .int .i64 (ya : Int)] rfl rfl 85 _ hr1 (by kernel_rfl) rfl (by simp [Value.oneCell']) ?_
 intro w9 hh9 hg9
 go_wp2
 (try simp only [Exit.inBlock, Exit.then])
 refine br hh9 Tryz.underlying85 ?_
 have hG : w.grownBy w9 (some b) := hgx.andThen hg9 (fun j e => .inl (by cases e; omega))
 exact ⟨_, rfl, RepC.mono (by omega) (RepC.kept hg9 (fun k e => by cases e; omega) hKL), HH.out.to hG (HF.out.p.st.kept hg9 (by simp; omega)) HF.out.p.lt, hG⟩
end
section
variable (b g cap : Nat) (T : List Lex.Tk)
theorem rword_map (f : Nat) (hC : ∀ f', f' ≤ f → CRex b g cap T 166 (Gram.Rf.exp T f')) (s : Gram.Rf.St) (w : World) (h : Rp w b g cap T s) (yk yn yu : Int) (yt : List UInt8) (ya : Nat) (hw : yt = [109, 97, 112]) (hi : s.i + 1 < T.length) (hf : (Gram.Rf.wordE T (f + 1) ⟨yk, yt, yn, yu, ya⟩ s).isSome = true) :
  Calls Tryz.prog 185 #[.pointer (some ⟨b, 0, none⟩), .agg #[.int .i64 yk, .string ⟨yt.toArray⟩, .int .i64 yn, .int .i64 yu, .int .i64 0, .int .i64 (ya : Int)]] w fun e w' => rePost w b g cap T (Gram.Rf.wordE T (f + 1) ⟨yk, yt, yn, yu, ya⟩ s) e w' := by
 have hbw := h.bl
 have hm := h.toks.most
 have HH := ld h
 have p1 := h.st.c1
 have fr1 := h.st.fr 1
 have nb0 : ¬ b = w.heap.size := by omega
 have nb1 : ¬ b = w.heap.size + 1 := by omega
 have nb2 : ¬ b = w.heap.size + 1 + 1 := by omega
 have nb3 : ¬ b = w.heap.size + 1 + 1 := by omega
 rw [Gram.Rf.wordE] at hf ⊢
 simp only at hf ⊢
 rw [if_neg (show ¬ yt = [116, 114, 117, 101] by rw [hw]; decide)] at hf ⊢
 rw [if_neg (show ¬ yt = [102, 97, 108, 115, 101] by rw [hw]; decide)] at hf ⊢
 rw [if_neg (show ¬ yt = [105, 102] by rw [hw]; decide)] at hf ⊢
 rw [if_neg (show ¬ yt = [119, 104, 101, 110] by rw [hw]; decide)] at hf ⊢
 rw [if_neg (show ¬ yt = [109, 101, 114, 103, 101] by rw [hw]; decide)] at hf ⊢
 rw [if_neg (show ¬ yt = [99, 97, 115, 116] by rw [hw]; decide)] at hf ⊢
 rw [if_neg (show ¬ yt = [116, 105, 99, 107] by rw [hw]; decide)] at hf ⊢
 rw [if_neg (show ¬ yt = [114, 101, 115, 101, 116] by rw [hw]; decide)] at hf ⊢
 rw [if_neg (show ¬ yt = [114, 101, 112] by rw [hw]; decide)] at hf ⊢
 rw [if_pos (show yt = [109, 97, 112] from hw)] at hf ⊢
 have e_true : (yt == [116, 114, 117, 101]) = false := by rw [hw]; rfl
 have e_false : (yt == [102, 97, 108, 115, 101]) = false := by rw [hw]; rfl
 have e_if : (yt == [105, 102]) = false := by rw [hw]; rfl
 have e_when : (yt == [119, 104, 101, 110]) = false := by rw [hw]; rfl
 have e_merge : (yt == [109, 101, 114, 103, 101]) = false := by rw [hw]; rfl
 have e_cast : (yt == [99, 97, 115, 116]) = false := by rw [hw]; rfl
 have e_tick : (yt == [116, 105, 99, 107]) = false := by rw [hw]; rfl
 have e_reset : (yt == [114, 101, 115, 101, 116]) = false := by rw [hw]; rfl
 have e_rep : (yt == [114, 101, 112]) = false := by rw [hw]; rfl
 have e_map : (yt == [109, 97, 112]) = true := by rw [hw]; rfl
 have e_fold : (yt == [102, 111, 108, 100]) = false := by rw [hw]; rfl
 cases hr2 : Gram.Rf.exps T f [] (Gram.Rf.take T [44] ((Gram.Rf.name T (Gram.Rf.take T [40] (Gram.Rf.adv s))).2)) with
 | none => rw [hr2] at hf; cases hf
 | some r2 =>
 obtain ⟨l2, t2⟩ := r2
 rw [hr2] at hf
 simp only [Gram.Rf.bindS] at hf ⊢
 have hce2 : ∀ wx, Rp wx b g cap T (Gram.Rf.take T [44] ((Gram.Rf.name T (Gram.Rf.take T [40] (Gram.Rf.adv s))).2)) → Calls Tryz.prog 184 #[.pointer (some ⟨b, 0, none⟩), .int .i64 0] wx fun e w' => rxPost wx b g cap T (some (l2, t2)) e w' := fun wx hx => by
  have := rexps_any b g cap T f (fun f' hf' => hC f' (by omega)) (Gram.Rf.take T [44] ((Gram.Rf.name T (Gram.Rf.take T [40] (Gram.Rf.adv s))).2)) wx hx (by rw [hr2]; rfl)
  rw [hr2] at this
  exact this
 simp only [rxPost] at hce2
 clear hr2 hf
 clear hw
 have H : Wd w ((((w.alloc (tO yk yt yn yu ya)).alloc exp0).alloc (.cells #[.int .i64 0, .int .i64 0, .string ⟨#[]⟩, .int .i64 0, .int .i64 0, .int .i64 0, .int .i64 0, .slice none 0 0, .int .i64 (ya : Int)] 85))) b g cap T (s) (tO yk yt yn yu ya) #[.int .i64 0, .int .i64 0, .string ⟨#[]⟩, .int .i64 0, .int .i64 0, .int .i64 0, .int .i64 0, .slice none 0 0, .int .i64 (ya : Int)] := ⟨((h.alloc _).alloc _).alloc _, galloc (galloc (galloc (World.grownBy.refl w (some b)) _) _) _, heap3_0 w _ _ _, heap3_1 w _ _ _, heap3_2 w _ _ _, hbw⟩
 have q1 := H.p.st.c1
 have qf := H.p.st.fr 1
 unfold exp0 at q1 qf
 have H : Wd w (((((w.alloc (tO yk yt yn yu ya)).alloc exp0).alloc (.cells #[.int .i64 0, .int .i64 0, .string ⟨#[]⟩, .int .i64 0, .int .i64 0, .int .i64 0, .int .i64 0, .slice none 0 0, .int .i64 (ya : Int)] 85))).setCell ⟨b, 1, none⟩ (.int .i64 ((s.i : Int) + 1))) b g cap T (Gram.Rf.adv s) (tO yk yt yn yu ya) #[.int .i64 0, .int .i64 0, .string ⟨#[]⟩, .int .i64 0, .int .i64 0, .int .i64 0, .int .i64 0, .slice none 0 0, .int .i64 (ya : Int)] := H.adv hi
 go_enter Tryz.func185, Tryz.ntmps185
 refine Hid.out ?_
 have hcc := rtake_any b g cap T (Gram.Rf.adv s) ⟨#[40]⟩ _ H.p
 have hzp1 := Wd.sz H
 rw [show ((⟨#[40]⟩ : ByteArray)).data.toList = [40] from rfl] at hcc
 have HHH := ld H
 clear H
 refine ld ?_
 go_wp2_with (go_at_call 99; refine hcc.mono ?_; rintro e w11 ⟨rfl, hpz, hgz⟩; refine Hid.out ?_)
 have H := HHH.out
 clear HHH hcc
 have hsz1 := hgz.size
 have H : Wd w (w11) b g cap T (Gram.Rf.take T [40] (Gram.Rf.adv s)) (tO yk yt yn yu ya) #[.int .i64 0, .int .i64 0, .string ⟨#[]⟩, .int .i64 0, .int .i64 0, .int .i64 0, .int .i64 0, .slice none 0 0, .int .i64 (ya : Int)] := H.step hgz hpz
 have hzq1 := Wd.sz H
 have hgk := hgz
 clear hgz hpz
 obtain ⟨c0, c1, c2, c3, c4, c5, c6, c7, c8, cf⟩ := Nc.of H.x'
 have ct := Wd.text H
 have H : Wd w ((w11).setCell ⟨w.heap.size + 1 + 1, 0, none⟩ (.int .i64 18)) b g cap T (Gram.Rf.take T [40] (Gram.Rf.adv s)) (tO yk yt yn yu ya) #[.int .i64 18, .int .i64 0, .string ⟨#[]⟩, .int .i64 0, .int .i64 0, .int .i64 0, .int .i64 0, .slice none 0 0, .int .i64 (ya : Int)] := Wd.set h H 0 (.int .i64 18)
 have hcc := rname_any b g cap T (Gram.Rf.take T [40] (Gram.Rf.adv s)) _ H.p
 have hzp2 := Wd.sz H
 have HHH := ld H
 clear H
 refine ld ?_
 go_wp2_with (go_at_call 100; refine hcc.mono ?_; rintro e w12 ⟨rfl, hpz, hgz⟩; refine Hid.out ?_)
 clear c0 c1 c2 c3 c4 c5 c6 c7 c8 cf ct
 have H := HHH.out
 clear HHH hcc
 have hsz2 := hgz.size
 have H : Wd w (w12) b g cap T ((Gram.Rf.name T (Gram.Rf.take T [40] (Gram.Rf.adv s))).2) (tO yk yt yn yu ya) #[.int .i64 18, .int .i64 0, .string ⟨#[]⟩, .int .i64 0, .int .i64 0, .int .i64 0, .int .i64 0, .slice none 0 0, .int .i64 (ya : Int)] := H.step hgz hpz
 have hzq2 := Wd.sz H
 have hgk := hgz
 clear hgz hpz
 obtain ⟨c0, c1, c2, c3, c4, c5, c6, c7, c8, cf⟩ := Nc.of H.x'
 have ct := Wd.text H
 have H : Wd w ((w12).setCell ⟨w.heap.size + 1 + 1, 2, none⟩ (.string ⟨(Gram.Rf.name T (Gram.Rf.take T [40] (Gram.Rf.adv s))).1.toArray⟩)) b g cap T ((Gram.Rf.name T (Gram.Rf.take T [40] (Gram.Rf.adv s))).2) (tO yk yt yn yu ya) #[.int .i64 18, .int .i64 0, .string ⟨(Gram.Rf.name T (Gram.Rf.take T [40] (Gram.Rf.adv s))).1.toArray⟩, .int .i64 0, .int .i64 0, .int .i64 0, .int .i64 0, .slice none 0 0, .int .i64 (ya : Int)] := Wd.set h H 2 (.string ⟨(Gram.Rf.name T (Gram.Rf.take T [40] (Gram.Rf.adv s))).1.toArray⟩)
 have hcc := rtake_any b g cap T ((Gram.Rf.name T (Gram.Rf.take T [40] (Gram.Rf.adv s))).2) ⟨#[44]⟩ _ H.p
 have hzp3 := Wd.sz H
 rw [show ((⟨#[44]⟩ : ByteArray)).data.toList = [44] from rfl] at hcc
 have HHH := ld H
 clear H
 refine ld ?_
 go_wp2_with (go_at_call 99; refine hcc.mono ?_; rintro e w13 ⟨rfl, hpz, hgz⟩; refine Hid.out ?_)
 clear c0 c1 c2 c3 c4 c5 c6 c7 c8 cf ct
 have H := HHH.out
 clear HHH hcc
 have hsz3 := hgz.size
 have H : Wd w (w13) b g cap T (Gram.Rf.take T [44] ((Gram.Rf.name T (Gram.Rf.take T [40] (Gram.Rf.adv s))).2)) (tO yk yt yn yu ya) #[.int .i64 18, .int .i64 0, .string ⟨(Gram.Rf.name T (Gram.Rf.take T [40] (Gram.Rf.adv s))).1.toArray⟩, .int .i64 0, .int .i64 0, .int .i64 0, .int .i64 0, .slice none 0 0, .int .i64 (ya : Int)] := H.step hgz hpz
 have hzq3 := Wd.sz H
 have hgk := hgz
 clear hgz hpz
 obtain ⟨c0, c1, c2, c3, c4, c5, c6, c7, c8, cf⟩ := Nc.of H.x'
 have ct := Wd.text H
 have hcc := hce2 _ H.p
 have hzp4 := Wd.sz H
 have HHH := ld H
 clear H
 refine ld ?_
 go_wp2_with (go_at_call 184; refine hcc.mono ?_; rintro e w14 ⟨v2, rfl, hk2, hpz, hgz⟩; refine Hid.out ?_)
 clear c0 c1 c2 c3 c4 c5 c6 c7 c8 cf ct
 have H := HHH.out
 clear HHH hcc
 have hsz4 := hgz.size
 have H : Wd w (w14) b g cap T (t2) (tO yk yt yn yu ya) #[.int .i64 18, .int .i64 0, .string ⟨(Gram.Rf.name T (Gram.Rf.take T [40] (Gram.Rf.adv s))).1.toArray⟩, .int .i64 0, .int .i64 0, .int .i64 0, .int .i64 0, .slice none 0 0, .int .i64 (ya : Int)] := H.step hgz hpz
 have hzq4 := Wd.sz H
 have hgk := hgz
 clear hgz hpz
 obtain ⟨c0, c1, c2, c3, c4, c5, c6, c7, c8, cf⟩ := Nc.of H.x'
 have ct := Wd.text H
 obtain ⟨ka2, kn2, kc2, rfl⟩ := hk2.form
 have H : Wd w ((w14).setCell ⟨w.heap.size + 1 + 1, 7, none⟩ (.slice ka2 kn2 kc2)) b g cap T (t2) (tO yk yt yn yu ya) #[.int .i64 18, .int .i64 0, .string ⟨(Gram.Rf.name T (Gram.Rf.take T [40] (Gram.Rf.adv s))).1.toArray⟩, .int .i64 0, .int .i64 0, .int .i64 0, .int .i64 0, .slice ka2 kn2 kc2, .int .i64 (ya : Int)] := Wd.set h H 7 (.slice ka2 kn2 kc2)
 have hKL := Kids.setX (w := w) (by omega) 7 (.slice ka2 kn2 kc2) hk2.kids
 have hcc := rtake_any b g cap T (t2) ⟨#[41]⟩ _ H.p
 have hzp5 := Wd.sz H
 rw [show ((⟨#[41]⟩ : ByteArray)).data.toList = [41] from rfl] at hcc
 have HHH := ld H
 clear H
 refine ld ?_
 go_wp2_with (go_at_call 99; refine hcc.mono ?_; rintro e w15 ⟨rfl, hpz, hgz⟩; refine Hid.out ?_)
 clear c0 c1 c2 c3 c4 c5 c6 c7 c8 cf ct
 have H := HHH.out
 clear HHH hcc
 have hsz5 := hgz.size
 have H : Wd w (w15) b g cap T (Gram.Rf.take T [41] (t2)) (tO yk yt yn yu ya) #[.int .i64 18, .int .i64 0, .string ⟨(Gram.Rf.name T (Gram.Rf.take T [40] (Gram.Rf.adv s))).1.toArray⟩, .int .i64 0, .int .i64 0, .int .i64 0, .int .i64 0, .slice ka2 kn2 kc2, .int .i64 (ya : Int)] := H.step hgz hpz
 have hzq5 := Wd.sz H
 have hgk := hgz
 clear hgz hpz
 obtain ⟨c0, c1, c2, c3, c4, c5, c6, c7, c8, cf⟩ := Nc.of H.x'
 have ct := Wd.text H
 have hKL := Kids.kept hKL hgk (by omega)
 have HF := ld H
 have hr1 := H.r
 have hgx := H.g'
 clear H
 refine ld ?_
 go_wp2_with (with_reducible refine hold_st 4 ?_)
 refine wpList_store_gen rfl _ _ _ rfl (w.heap.size + 1) #[.int .i64 18, .int .i64 0, .string ⟨(Gram.Rf.name T (Gram.Rf.take T [40] (Gram.Rf.adv s))).1.toArray⟩, .int .i64 0, .int .i64 0, .int .i64 0, .int .i64 0, .slice ka2 kn2 kc2, .int .i64 (ya : Int)] rfl rfl 85 _ hr1 (by kernel_rfl) rfl (by simp [Value.oneCell']) ?_
 intro w9 hh9 hg9
 go_wp2
 (try simp only [Exit.inBlock, Exit.then])
 refine br hh9 Tryz.underlying85 ?_
 have hG : w.grownBy w9 (some b) := hgx.andThen hg9 (fun j e => .inl (by cases e; omega))
 exact ⟨_, rfl, RepC.mono (by omega) (RepC.kept hg9 (fun k e => by cases e; omega) hKL), HH.out.to hG (HF.out.p.st.kept hg9 (by simp; omega)) HF.out.p.lt, hG⟩
end
section
variable (b g cap : Nat) (T : List Lex.Tk)
theorem rword_if (f : Nat) (hC : ∀ f', f' ≤ f → CRex b g cap T 166 (Gram.Rf.exp T f')) (s : Gram.Rf.St) (w : World) (h : Rp w b g cap T s) (yk yn yu : Int) (yt : List UInt8) (ya : Nat) (hw : yt = [105, 102]) (hi : s.i + 1 < T.length) (hf : (Gram.Rf.wordE T (f + 1) ⟨yk, yt, yn, yu, ya⟩ s).isSome = true) :
  Calls Tryz.prog 185 #[.pointer (some ⟨b, 0, none⟩), .agg #[.int .i64 yk, .string ⟨yt.toArray⟩, .int .i64 yn, .int .i64 yu, .int .i64 0, .int .i64 (ya : Int)]] w fun e w' => rePost w b g cap T (Gram.Rf.wordE T (f + 1) ⟨yk, yt, yn, yu, ya⟩ s) e w' := by
 have hbw := h.bl
 have hm := h.toks.most
 have HH := ld h
 have p1 := h.st.c1
 have fr1 := h.st.fr 1
 have nb0 : ¬ b = w.heap.size := by omega
 have nb1 : ¬ b = w.heap.size + 1 := by omega
 have nb2 : ¬ b = w.heap.size + 1 + 1 := by omega
 have nb3 : ¬ b = w.heap.size + 1 + 1 := by omega
 rw [Gram.Rf.wordE] at hf ⊢
 simp only at hf ⊢
 rw [if_neg (show ¬ yt = [116, 114, 117, 101] by rw [hw]; decide)] at hf ⊢
 rw [if_neg (show ¬ yt = [102, 97, 108, 115, 101] by rw [hw]; decide)] at hf ⊢
 rw [if_pos (show yt = [105, 102] from hw)] at hf ⊢
 have e_true : (yt == [116, 114, 117, 101]) = false := by rw [hw]; rfl
 have e_false : (yt == [102, 97, 108, 115, 101]) = false := by rw [hw]; rfl
 have e_if : (yt == [105, 102]) = true := by rw [hw]; rfl
 have e_when : (yt == [119, 104, 101, 110]) = false := by rw [hw]; rfl
 have e_merge : (yt == [109, 101, 114, 103, 101]) = false := by rw [hw]; rfl
 have e_cast : (yt == [99, 97, 115, 116]) = false := by rw [hw]; rfl
 have e_tick : (yt == [116, 105, 99, 107]) = false := by rw [hw]; rfl
 have e_reset : (yt == [114, 101, 115, 101, 116]) = false := by rw [hw]; rfl
 have e_rep : (yt == [114, 101, 112]) = false := by rw [hw]; rfl
 have e_map : (yt == [109, 97, 112]) = false := by rw [hw]; rfl
 have e_fold : (yt == [102, 111, 108, 100]) = false := by rw [hw]; rfl
 cases hr2 : Gram.Rf.exp T f (Gram.Rf.adv s) with
 | none => rw [hr2] at hf; cases hf
 | some r2 =>
 obtain ⟨x2, t2⟩ := r2
 rw [hr2] at hf
 simp only [Gram.Rf.bindS] at hf ⊢
 cases x2 with
 | mk f2 s2' nm2 tk2 tl2 n2' m2 ks2 a2 =>
 have hce2 : ∀ wx, Rp wx b g cap T (Gram.Rf.adv s) → Calls Tryz.prog 166 #[.pointer (some ⟨b, 0, none⟩)] wx fun e w' => rePost wx b g cap T (some ((Gram.Exp.mk f2 s2' nm2 tk2 tl2 n2' m2 ks2 a2), t2)) e w' := fun wx hx => by
  have := hC f (Nat.le_refl _) (Gram.Rf.adv s) wx hx
  rw [hr2] at this
  exact this rfl
 simp only [rePost, expV] at hce2
 clear hr2
 cases hr3 : Gram.Rf.exp T f (Gram.Rf.take T [116, 104, 101, 110] (t2)) with
 | none => rw [hr3] at hf; cases hf
 | some r3 =>
 obtain ⟨x3, t3⟩ := r3
 rw [hr3] at hf
 simp only [Gram.Rf.bindS] at hf ⊢
 cases x3 with
 | mk f3 s3' nm3 tk3 tl3 n3' m3 ks3 a3 =>
 have hce3 : ∀ wx, Rp wx b g cap T (Gram.Rf.take T [116, 104, 101, 110] (t2)) → Calls Tryz.prog 166 #[.pointer (some ⟨b, 0, none⟩)] wx fun e w' => rePost wx b g cap T (some ((Gram.Exp.mk f3 s3' nm3 tk3 tl3 n3' m3 ks3 a3), t3)) e w' := fun wx hx => by
  have := hC f (Nat.le_refl _) (Gram.Rf.take T [116, 104, 101, 110] (t2)) wx hx
  rw [hr3] at this
  exact this rfl
 simp only [rePost, expV] at hce3
 clear hr3
 cases hr4 : Gram.Rf.exp T f (Gram.Rf.take T [101, 108, 115, 101] (t3)) with
 | none => rw [hr4] at hf; cases hf
 | some r4 =>
 obtain ⟨x4, t4⟩ := r4
 rw [hr4] at hf
 simp only [Gram.Rf.bindS] at hf ⊢
 cases x4 with
 | mk f4 s4' nm4 tk4 tl4 n4' m4 ks4 a4 =>
 have hce4 : ∀ wx, Rp wx b g cap T (Gram.Rf.take T [101, 108, 115, 101] (t3)) → Calls Tryz.prog 166 #[.pointer (some ⟨b, 0, none⟩)] wx fun e w' => rePost wx b g cap T (some ((Gram.Exp.mk f4 s4' nm4 tk4 tl4 n4' m4 ks4 a4), t4)) e w' := fun wx hx => by
  have := hC f (Nat.le_refl _) (Gram.Rf.take T [101, 108, 115, 101] (t3)) wx hx
  rw [hr4] at this
  exact this rfl
 simp only [rePost, expV] at hce4
 clear hr4
 clear hf
 clear hw
 have H : Wd w ((((w.alloc (tO yk yt yn yu ya)).alloc exp0).alloc (.cells #[.int .i64 0, .int .i64 0, .string ⟨#[]⟩, .int .i64 0, .int .i64 0, .int .i64 0, .int .i64 0, .slice none 0 0, .int .i64 (ya : Int)] 85))) b g cap T (s) (tO yk yt yn yu ya) #[.int .i64 0, .int .i64 0, .string ⟨#[]⟩, .int .i64 0, .int .i64 0, .int .i64 0, .int .i64 0, .slice none 0 0, .int .i64 (ya : Int)] := ⟨((h.alloc _).alloc _).alloc _, galloc (galloc (galloc (World.grownBy.refl w (some b)) _) _) _, heap3_0 w _ _ _, heap3_1 w _ _ _, heap3_2 w _ _ _, hbw⟩
 have q1 := H.p.st.c1
 have qf := H.p.st.fr 1
 unfold exp0 at q1 qf
 have H : Wd w (((((w.alloc (tO yk yt yn yu ya)).alloc exp0).alloc (.cells #[.int .i64 0, .int .i64 0, .string ⟨#[]⟩, .int .i64 0, .int .i64 0, .int .i64 0, .int .i64 0, .slice none 0 0, .int .i64 (ya : Int)] 85))).setCell ⟨b, 1, none⟩ (.int .i64 ((s.i : Int) + 1))) b g cap T (Gram.Rf.adv s) (tO yk yt yn yu ya) #[.int .i64 0, .int .i64 0, .string ⟨#[]⟩, .int .i64 0, .int .i64 0, .int .i64 0, .int .i64 0, .slice none 0 0, .int .i64 (ya : Int)] := H.adv hi
 go_enter Tryz.func185, Tryz.ntmps185
 refine Hid.out ?_
 have hcc := hce2 _ H.p
 have hzp1 := Wd.sz H
 have HHH := ld H
 clear H
 refine ld ?_
 go_wp2_with (go_at_call 166; refine hcc.mono ?_; rintro e w11 ⟨k2, rfl, hk2, hpz, hgz⟩; refine Hid.out ?_)
 have H := HHH.out
 clear HHH hcc
 have hsz1 := hgz.size
 have H : Wd w (w11) b g cap T (t2) (tO yk yt yn yu ya) #[.int .i64 0, .int .i64 0, .string ⟨#[]⟩, .int .i64 0, .int .i64 0, .int .i64 0, .int .i64 0, .slice none 0 0, .int .i64 (ya : Int)] := H.step hgz hpz
 have hzq1 := Wd.sz H
 have hgk := hgz
 clear hgz hpz
 obtain ⟨c0, c1, c2, c3, c4, c5, c6, c7, c8, cf⟩ := Nc.of H.x'
 have ct := Wd.text H
 obtain ⟨ka2, kn2, kc2, rfl⟩ := hk2.form
 have H : Wd w ((w11).alloc (.cells #[.int .i64 f2, .int .i64 s2', .string ⟨nm2.toArray⟩, .int .i64 tk2, .int .i64 tl2, .int .i64 n2', .int .i64 m2, .slice ka2 kn2 kc2, .int .i64 a2] 85)) b g cap T (t2) (tO yk yt yn yu ya) #[.int .i64 0, .int .i64 0, .string ⟨#[]⟩, .int .i64 0, .int .i64 0, .int .i64 0, .int .i64 0, .slice none 0 0, .int .i64 (ya : Int)] := Wd.alloc H (.cells #[.int .i64 f2, .int .i64 s2', .string ⟨nm2.toArray⟩, .int .i64 tk2, .int .i64 tl2, .int .i64 n2', .int .i64 m2, .slice ka2 kn2 kc2, .int .i64 a2] 85)
 have hab := heap_alloc_new w11 (.cells #[.int .i64 f2, .int .i64 s2', .string ⟨nm2.toArray⟩, .int .i64 tk2, .int .i64 tl2, .int .i64 n2', .int .i64 m2, .slice ka2 kn2 kc2, .int .i64 a2] 85)
 have hk2 := Kids.kept0 hk2 (ga w11 (.cells #[.int .i64 f2, .int .i64 s2', .string ⟨nm2.toArray⟩, .int .i64 tk2, .int .i64 tl2, .int .i64 n2', .int .i64 m2, .slice ka2 kn2 kc2, .int .i64 a2] 85) none)
 have hcc := rtake_any b g cap T (t2) ⟨#[116, 104, 101, 110]⟩ _ H.p
 have hzp2 := Wd.sz H
 rw [show ((⟨#[116, 104, 101, 110]⟩ : ByteArray)).data.toList = [116, 104, 101, 110] from rfl] at hcc
 have HHH := ld H
 clear H
 refine ld ?_
 go_wp2_with (go_at_call 99; refine hcc.mono ?_; rintro e w12 ⟨rfl, hpz, hgz⟩; refine Hid.out ?_)
 clear c0 c1 c2 c3 c4 c5 c6 c7 c8 cf ct
 have H := HHH.out
 clear HHH hcc
 have hsz2 := hgz.size
 have H : Wd w (w12) b g cap T (Gram.Rf.take T [116, 104, 101, 110] (t2)) (tO yk yt yn yu ya) #[.int .i64 0, .int .i64 0, .string ⟨#[]⟩, .int .i64 0, .int .i64 0, .int .i64 0, .int .i64 0, .slice none 0 0, .int .i64 (ya : Int)] := H.step hgz hpz
 have hzq2 := Wd.sz H
 have hgk := hgz
 clear hgz hpz
 obtain ⟨c0, c1, c2, c3, c4, c5, c6, c7, c8, cf⟩ := Nc.of H.x'
 have ct := Wd.text H
 have hk2 := Kids.kept hk2 hgk (by omega)
 have hab := (hgk.block (w11.heap.size) (Array.getElem?_eq_some_iff.1 hab).1 (by simp; omega)).trans hab
 have hcc := hce3 _ H.p
 have hzp3 := Wd.sz H
 have HHH := ld H
 clear H
 refine ld ?_
 go_wp2_with (go_at_call 166; refine hcc.mono ?_; rintro e w13 ⟨k3, rfl, hk3, hpz, hgz⟩; refine Hid.out ?_)
 clear c0 c1 c2 c3 c4 c5 c6 c7 c8 cf ct
 have H := HHH.out
 clear HHH hcc
 have hsz3 := hgz.size
 have H : Wd w (w13) b g cap T (t3) (tO yk yt yn yu ya) #[.int .i64 0, .int .i64 0, .string ⟨#[]⟩, .int .i64 0, .int .i64 0, .int .i64 0, .int .i64 0, .slice none 0 0, .int .i64 (ya : Int)] := H.step hgz hpz
 have hzq3 := Wd.sz H
 have hgk := hgz
 clear hgz hpz
 obtain ⟨c0, c1, c2, c3, c4, c5, c6, c7, c8, cf⟩ := Nc.of H.x'
 have ct := Wd.text H
 obtain ⟨ka3, kn3, kc3, rfl⟩ := hk3.form
 have hk2 := Kids.kept hk2 hgk (by omega)
 have hab := (hgk.block (w11.heap.size) (Array.getElem?_eq_some_iff.1 hab).1 (by simp; omega)).trans hab
 have H : Wd w ((w13).alloc (.cells #[.int .i64 f3, .int .i64 s3', .string ⟨nm3.toArray⟩, .int .i64 tk3, .int .i64 tl3, .int .i64 n3', .int .i64 m3, .slice ka3 kn3 kc3, .int .i64 a3] 85)) b g cap T (t3) (tO yk yt yn yu ya) #[.int .i64 0, .int .i64 0, .string ⟨#[]⟩, .int .i64 0, .int .i64 0, .int .i64 0, .int .i64 0, .slice none 0 0, .int .i64 (ya : Int)] := Wd.alloc H (.cells #[.int .i64 f3, .int .i64 s3', .string ⟨nm3.toArray⟩, .int .i64 tk3, .int .i64 tl3, .int .i64 n3', .int .i64 m3, .slice ka3 kn3 kc3, .int .i64 a3] 85)
 have hbb := heap_alloc_new w13 (.cells #[.int .i64 f3, .int .i64 s3', .string ⟨nm3.toArray⟩, .int .i64 tk3, .int .i64 tl3, .int .i64 n3', .int .i64 m3, .slice ka3 kn3 kc3, .int .i64 a3] 85)
 have hk3 := Kids.kept0 hk3 (ga w13 (.cells #[.int .i64 f3, .int .i64 s3', .string ⟨nm3.toArray⟩, .int .i64 tk3, .int .i64 tl3, .int .i64 n3', .int .i64 m3, .slice ka3 kn3 kc3, .int .i64 a3] 85) none)
 have hk2 := Kids.kept0 hk2 (ga w13 (.cells #[.int .i64 f3, .int .i64 s3', .string ⟨nm3.toArray⟩, .int .i64 tk3, .int .i64 tl3, .int .i64 n3', .int .i64 m3, .slice ka3 kn3 kc3, .int .i64 a3] 85) none)
 have hab := ((ga w13 (.cells #[.int .i64 f3, .int .i64 s3', .string ⟨nm3.toArray⟩, .int .i64 tk3, .int .i64 tl3, .int .i64 n3', .int .i64 m3, .slice ka3 kn3 kc3, .int .i64 a3] 85) none).block (w11.heap.size) (Array.getElem?_eq_some_iff.1 hab).1 (by simp)).trans hab
 have hcc := rtake_any b g cap T (t3) ⟨#[101, 108, 115, 101]⟩ _ H.p
 have hzp4 := Wd.sz H
 rw [show ((⟨#[101, 108, 115, 101]⟩ : ByteArray)).data.toList = [101, 108, 115, 101] from rfl] at hcc
 have HHH := ld H
 clear H
 refine ld ?_
 go_wp2_with (go_at_call 99; refine hcc.mono ?_; rintro e w14 ⟨rfl, hpz, hgz⟩; refine Hid.out ?_)
 clear c0 c1 c2 c3 c4 c5 c6 c7 c8 cf ct
 have H := HHH.out
 clear HHH hcc
 have hsz4 := hgz.size
 have H : Wd w (w14) b g cap T (Gram.Rf.take T [101, 108, 115, 101] (t3)) (tO yk yt yn yu ya) #[.int .i64 0, .int .i64 0, .string ⟨#[]⟩, .int .i64 0, .int .i64 0, .int .i64 0, .int .i64 0, .slice none 0 0, .int .i64 (ya : Int)] := H.step hgz hpz
 have hzq4 := Wd.sz H
 have hgk := hgz
 clear hgz hpz
 obtain ⟨c0, c1, c2, c3, c4, c5, c6, c7, c8, cf⟩ := Nc.of H.x'
 have ct := Wd.text H
 have hk2 := Kids.kept hk2 hgk (by omega)
 have hk3 := Kids.kept hk3 hgk (by omega)
 have hab := (hgk.block (w11.heap.size) (Array.getElem?_eq_some_iff.1 hab).1 (by simp; omega)).trans hab
 have hbb := (hgk.block (w13.heap.size) (Array.getElem?_eq_some_iff.1 hbb).1 (by simp; omega)).trans hbb
 have H : Wd w ((w14).setCell ⟨w.heap.size + 1 + 1, 0, none⟩ (.int .i64 5)) b g cap T (Gram.Rf.take T [101, 108, 115, 101] (t3)) (tO yk yt yn yu ya) #[.int .i64 5, .int .i64 0, .string ⟨#[]⟩, .int .i64 0, .int .i64 0, .int .i64 0, .int .i64 0, .slice none 0 0, .int .i64 (ya : Int)] := Wd.set h H 0 (.int .i64 5)
 have hgs : w14.grownBy ((w14).setCell ⟨w.heap.size + 1 + 1, 0, none⟩ (.int .i64 5)) (some (w.heap.size + 1 + 1)) := gset (World.grownBy.refl w14 _) (a := ⟨w.heap.size + 1 + 1, 0, none⟩) (.inr rfl) _
 have hk2 := Kids.setX (w := w) (by omega) 0 (.int .i64 5) hk2
 have hk3 := Kids.setX (w := w) (by omega) 0 (.int .i64 5) hk3
 have hab := (hgs.block (w11.heap.size) (Array.getElem?_eq_some_iff.1 hab).1 (by simp; omega)).trans hab
 have hbb := (hgs.block (w13.heap.size) (Array.getElem?_eq_some_iff.1 hbb).1 (by simp; omega)).trans hbb
 obtain ⟨WB, hWB⟩ : ∃ WB, WB = ((w14).setCell ⟨w.heap.size + 1 + 1, 0, none⟩ (.int .i64 5)).drew := ⟨_, rfl⟩
 have hab : WB.heap[w11.heap.size]? = some (.cells #[.int .i64 f2, .int .i64 s2', .string ⟨nm2.toArray⟩, .int .i64 tk2, .int .i64 tl2, .int .i64 n2', .int .i64 m2, .slice ka2 kn2 kc2, .int .i64 a2] 85 (0, 0)) := by rw [hWB]; exact hab
 have hbb : WB.heap[w13.heap.size]? = some (.cells #[.int .i64 f3, .int .i64 s3', .string ⟨nm3.toArray⟩, .int .i64 tk3, .int .i64 tl3, .int .i64 n3', .int .i64 m3, .slice ka3 kn3 kc3, .int .i64 a3] 85 (0, 0)) := by rw [hWB]; exact hbb
 have hk2 := Kids.kept0 hk2 (gdrew (World.grownBy.refl _ none))
 rw [← hWB] at hk2
 have hk3 := Kids.kept0 hk3 (gdrew (World.grownBy.refl _ none))
 rw [← hWB] at hk3
 have HW : Wd w WB b g cap T (Gram.Rf.take T [101, 108, 115, 101] (t3)) (tO yk yt yn yu ya) #[.int .i64 5, .int .i64 0, .string ⟨#[]⟩, .int .i64 0, .int .i64 0, .int .i64 0, .int .i64 0, .slice none 0 0, .int .i64 (ya : Int)] := by rw [hWB]; exact H.step0 (gdrew (World.grownBy.refl _ none))
 have hsB : WB.heap.size = w14.heap.size := by rw [hWB]; exact size_set _ _ _
 obtain ⟨d0, d1, d2, d3, d4, d5, d6, d7, d8, df⟩ := Nc.of hab
 obtain ⟨e0, e1, e2, e3, e4, e5, e6, e7, e8, ef⟩ := Nc.of hbb
 have hS0 : (WB.cell? ⟨w11.heap.size, 0, none⟩ = some (.int .i64 f2) ∧ WB.cell? ⟨w11.heap.size, 1, none⟩ = some (.int .i64 s2') ∧ WB.cell? ⟨w11.heap.size, 2, none⟩ = some (.string ⟨nm2.toArray⟩) ∧ WB.cell? ⟨w11.heap.size, 3, none⟩ = some (.int .i64 tk2) ∧ WB.cell? ⟨w11.heap.size, 4, none⟩ = some (.int .i64 tl2) ∧ WB.cell? ⟨w11.heap.size, 5, none⟩ = some (.int .i64 n2') ∧ WB.cell? ⟨w11.heap.size, 6, none⟩ = some (.int .i64 m2) ∧ WB.cell? ⟨w11.heap.size, 7, none⟩ = some (.slice ka2 kn2 kc2) ∧ WB.cell? ⟨w11.heap.size, 8, none⟩ = some (.int .i64 a2)) ∧ (WB.cell? ⟨w13.heap.size, 0, none⟩ = some (.int .i64 f3) ∧ WB.cell? ⟨w13.heap.size, 1, none⟩ = some (.int .i64 s3') ∧ WB.cell? ⟨w13.heap.size, 2, none⟩ = some (.string ⟨nm3.toArray⟩) ∧ WB.cell? ⟨w13.heap.size, 3, none⟩ = some (.int .i64 tk3) ∧ WB.cell? ⟨w13.heap.size, 4, none⟩ = some (.int .i64 tl3) ∧ WB.cell? ⟨w13.heap.size, 5, none⟩ = some (.int .i64 n3') ∧ WB.cell? ⟨w13.heap.size, 6, none⟩ = some (.int .i64 m3) ∧ WB.cell? ⟨w13.heap.size, 7, none⟩ = some (.slice ka3 kn3 kc3) ∧ WB.cell? ⟨w13.heap.size, 8, none⟩ = some (.int .i64 a3)) := ⟨⟨d0, d1, d2, d3, d4, d5, d6, d7, d8⟩, e0, e1, e2, e3, e4, e5, e6, e7, e8⟩
 clear d0 d1 d2 d3 d4 d5 d6 d7 d8 df e0 e1 e2 e3 e4 e5 e6 e7 e8 ef
 have hce := hce4 _ HW.p
 have hbig := Wd.sz HW
 have HHW := ld HW
 clear H HW hce4
 have HsB := ld hsB
 clear hsB
 refine ld ?_
 go_wp2
 refine wp_region_L (S := fun w' => (w'.cell? ⟨w11.heap.size, 0, none⟩ = some (.int .i64 f2) ∧ w'.cell? ⟨w11.heap.size, 1, none⟩ = some (.int .i64 s2') ∧ w'.cell? ⟨w11.heap.size, 2, none⟩ = some (.string ⟨nm2.toArray⟩) ∧ w'.cell? ⟨w11.heap.size, 3, none⟩ = some (.int .i64 tk2) ∧ w'.cell? ⟨w11.heap.size, 4, none⟩ = some (.int .i64 tl2) ∧ w'.cell? ⟨w11.heap.size, 5, none⟩ = some (.int .i64 n2') ∧ w'.cell? ⟨w11.heap.size, 6, none⟩ = some (.int .i64 m2) ∧ w'.cell? ⟨w11.heap.size, 7, none⟩ = some (.slice ka2 kn2 kc2) ∧ w'.cell? ⟨w11.heap.size, 8, none⟩ = some (.int .i64 a2)) ∧ (w'.cell? ⟨w13.heap.size, 0, none⟩ = some (.int .i64 f3) ∧ w'.cell? ⟨w13.heap.size, 1, none⟩ = some (.int .i64 s3') ∧ w'.cell? ⟨w13.heap.size, 2, none⟩ = some (.string ⟨nm3.toArray⟩) ∧ w'.cell? ⟨w13.heap.size, 3, none⟩ = some (.int .i64 tk3) ∧ w'.cell? ⟨w13.heap.size, 4, none⟩ = some (.int .i64 tl3) ∧ w'.cell? ⟨w13.heap.size, 5, none⟩ = some (.int .i64 n3') ∧ w'.cell? ⟨w13.heap.size, 6, none⟩ = some (.int .i64 m3) ∧ w'.cell? ⟨w13.heap.size, 7, none⟩ = some (.slice ka3 kn3 kc3) ∧ w'.cell? ⟨w13.heap.size, 8, none⟩ = some (.int .i64 a3))) (Z := [6]) (by kernel_rfl) ?_
 rw [← hWB]
 clear hWB
 refine wpL_take (i := 0) (v := .agg #[.int .i64 f2, .int .i64 s2', .string ⟨nm2.toArray⟩, .int .i64 tk2, .int .i64 tl2, .int .i64 n2', .int .i64 m2, .slice ka2 kn2 kc2, .int .i64 a2]) rfl (by kernel_rfl) (by kernel_rfl) (by kernel_rfl) (fun _ _ _ h => h) (by kernel_rfl) (.inl ⟨rfl, fun w' hw' => ?_⟩) hS0 ?_
 ·obtain ⟨⟨q0, q1, q2, q3, q4, q5, q6, q7, q8⟩, r0, r1, r2, r3, r4, r5, r6, r7, r8⟩ := hw'
  go_simp
 refine wpL_take (i := 1) (v := .agg #[.int .i64 f3, .int .i64 s3', .string ⟨nm3.toArray⟩, .int .i64 tk3, .int .i64 tl3, .int .i64 n3', .int .i64 m3, .slice ka3 kn3 kc3, .int .i64 a3]) rfl (by kernel_rfl) (by kernel_rfl) (by kernel_rfl) (fun _ _ _ h => h) (by kernel_rfl) (.inl ⟨rfl, fun w' hw' => ?_⟩) hS0 ?_
 ·obtain ⟨⟨q0, q1, q2, q3, q4, q5, q6, q7, q8⟩, r0, r1, r2, r3, r4, r5, r6, r7, r8⟩ := hw'
  go_simp
 refine wpL_take (i := 2) (v := .pointer (some ⟨b, 0, none⟩)) rfl (by kernel_rfl) (by kernel_rfl) (by kernel_rfl) (fun _ _ _ h => h) (by kernel_rfl) (.inl ⟨rfl, fun w' hw' => ?_⟩) hS0 ?_
 ·obtain ⟨⟨q0, q1, q2, q3, q4, q5, q6, q7, q8⟩, r0, r1, r2, r3, r4, r5, r6, r7, r8⟩ := hw'
  go_simp
 refine wpL_one (i := 3) (by kernel_rfl) ?_
 refine wpOp_step rfl (fun K' hK => ?_)
 split
 case isFalse hno => exact absurd rfl hno
 unfold Oper.wp
 go_simp
 refine hce.mono ?_
 rintro e w8 ⟨k4, rfl, hk4, hp8, hg8⟩
 obtain ⟨ka4, kn4, kc4, rfl⟩ := hk4.form
 have hab8 := (hg8.block (w11.heap.size) (Array.getElem?_eq_some_iff.1 hab).1 (by simp; omega)).trans hab
 have hbb8 := (hg8.block (w13.heap.size) (Array.getElem?_eq_some_iff.1 hbb).1 (by simp; omega)).trans hbb
 obtain ⟨y0, y1, y2, y3, y4, y5, y6, y7, y8, yf⟩ := Nc.of hab8
 obtain ⟨z0, z1, z2, z3, z4, z5, z6, z7, z8, zf⟩ := Nc.of hbb8
 refine hK _ _ ⟨fun _ => ⟨⟨y0, y1, y2, y3, y4, y5, y6, y7, y8⟩, z0, z1, z2, z3, z4, z5, z6, z7, z8⟩, ?_⟩
 clear hK K'
 refine wpL_one (i := 4) (by kernel_rfl) ?_
 refine wpOp_step rfl (fun K' hK => ?_)
 split
 case isFalse hno => exact absurd rfl hno
 unfold Oper.wp
 go_simp
 have H := (HHW.out.step hg8 hp8).alloc (.cells #[.int .i64 f2, .int .i64 s2', .string ⟨nm2.toArray⟩, .int .i64 tk2, .int .i64 tl2, .int .i64 n2', .int .i64 m2, .slice ka2 kn2 kc2, .int .i64 a2, .int .i64 f3, .int .i64 s3', .string ⟨nm3.toArray⟩, .int .i64 tk3, .int .i64 tl3, .int .i64 n3', .int .i64 m3, .slice ka3 kn3 kc3, .int .i64 a3, .int .i64 f4, .int .i64 s4', .string ⟨nm4.toArray⟩, .int .i64 tk4, .int .i64 tl4, .int .i64 n4', .int .i64 m4, .slice ka4 kn4 kc4, .int .i64 a4] 85)
 have hab9 := ((ga w8 (.cells #[.int .i64 f2, .int .i64 s2', .string ⟨nm2.toArray⟩, .int .i64 tk2, .int .i64 tl2, .int .i64 n2', .int .i64 m2, .slice ka2 kn2 kc2, .int .i64 a2, .int .i64 f3, .int .i64 s3', .string ⟨nm3.toArray⟩, .int .i64 tk3, .int .i64 tl3, .int .i64 n3', .int .i64 m3, .slice ka3 kn3 kc3, .int .i64 a3, .int .i64 f4, .int .i64 s4', .string ⟨nm4.toArray⟩, .int .i64 tk4, .int .i64 tl4, .int .i64 n4', .int .i64 m4, .slice ka4 kn4 kc4, .int .i64 a4] 85) none).block (w11.heap.size) (Array.getElem?_eq_some_iff.1 hab8).1 (by simp)).trans hab8
 have hbb9 := ((ga w8 (.cells #[.int .i64 f2, .int .i64 s2', .string ⟨nm2.toArray⟩, .int .i64 tk2, .int .i64 tl2, .int .i64 n2', .int .i64 m2, .slice ka2 kn2 kc2, .int .i64 a2, .int .i64 f3, .int .i64 s3', .string ⟨nm3.toArray⟩, .int .i64 tk3, .int .i64 tl3, .int .i64 n3', .int .i64 m3, .slice ka3 kn3 kc3, .int .i64 a3, .int .i64 f4, .int .i64 s4', .string ⟨nm4.toArray⟩, .int .i64 tk4, .int .i64 tl4, .int .i64 n4', .int .i64 m4, .slice ka4 kn4 kc4, .int .i64 a4] 85) none).block (w13.heap.size) (Array.getElem?_eq_some_iff.1 hbb8).1 (by simp)).trans hbb8
 clear y0 y1 y2 y3 y4 y5 y6 y7 y8 yf z0 z1 z2 z3 z4 z5 z6 z7 z8 zf
 obtain ⟨y0, y1, y2, y3, y4, y5, y6, y7, y8, yf⟩ := Nc.of hab9
 obtain ⟨z0, z1, z2, z3, z4, z5, z6, z7, z8, zf⟩ := Nc.of hbb9
 refine hK _ _ ⟨fun _ => ⟨⟨y0, y1, y2, y3, y4, y5, y6, y7, y8⟩, z0, z1, z2, z3, z4, z5, z6, z7, z8⟩, ?_⟩
 clear hK K'
 refine wpL_one (i := 5) (by kernel_rfl) ?_
 refine wpOp_step rfl (fun K' hK => ?_)
 split
 case isFalse hno => exact absurd rfl hno
 unfold Oper.wp
 go_simp
 refine hK _ _ ⟨fun _ => ⟨⟨y0, y1, y2, y3, y4, y5, y6, y7, y8⟩, z0, z1, z2, z3, z4, z5, z6, z7, z8⟩, ?_⟩
 clear hK K'
 clear y0 y1 y2 y3 y4 y5 y6 y7 y8 yf z0 z1 z2 z3 z4 z5 z6 z7 z8 zf
 obtain ⟨c0, c1, c2, c3, c4, c5, c6, c7, c8, cf⟩ := Nc.of H.x'
 have hs8 := hg8.size
 have hsB := HsB.out
 have hk2 := Kids.kept0 (Kids.kept hk2 hg8 (by omega)) (ga w8 (.cells #[.int .i64 f2, .int .i64 s2', .string ⟨nm2.toArray⟩, .int .i64 tk2, .int .i64 tl2, .int .i64 n2', .int .i64 m2, .slice ka2 kn2 kc2, .int .i64 a2, .int .i64 f3, .int .i64 s3', .string ⟨nm3.toArray⟩, .int .i64 tk3, .int .i64 tl3, .int .i64 n3', .int .i64 m3, .slice ka3 kn3 kc3, .int .i64 a3, .int .i64 f4, .int .i64 s4', .string ⟨nm4.toArray⟩, .int .i64 tk4, .int .i64 tl4, .int .i64 n4', .int .i64 m4, .slice ka4 kn4 kc4, .int .i64 a4] 85) none)
 have hk3 := Kids.kept0 (Kids.kept hk3 hg8 (by omega)) (ga w8 (.cells #[.int .i64 f2, .int .i64 s2', .string ⟨nm2.toArray⟩, .int .i64 tk2, .int .i64 tl2, .int .i64 n2', .int .i64 m2, .slice ka2 kn2 kc2, .int .i64 a2, .int .i64 f3, .int .i64 s3', .string ⟨nm3.toArray⟩, .int .i64 tk3, .int .i64 tl3, .int .i64 n3', .int .i64 m3, .slice ka3 kn3 kc3, .int .i64 a3, .int .i64 f4, .int .i64 s4', .string ⟨nm4.toArray⟩, .int .i64 tk4, .int .i64 tl4, .int .i64 n4', .int .i64 m4, .slice ka4 kn4 kc4, .int .i64 a4] 85) none)
 have hk4 := Kids.kept0 hk4 (ga w8 (.cells #[.int .i64 f2, .int .i64 s2', .string ⟨nm2.toArray⟩, .int .i64 tk2, .int .i64 tl2, .int .i64 n2', .int .i64 m2, .slice ka2 kn2 kc2, .int .i64 a2, .int .i64 f3, .int .i64 s3', .string ⟨nm3.toArray⟩, .int .i64 tk3, .int .i64 tl3, .int .i64 n3', .int .i64 m3, .slice ka3 kn3 kc3, .int .i64 a3, .int .i64 f4, .int .i64 s4', .string ⟨nm4.toArray⟩, .int .i64 tk4, .int .i64 tl4, .int .i64 n4', .int .i64 m4, .slice ka4 kn4 kc4, .int .i64 a4] 85) none)
 have hKL : Kids (w8.alloc (.cells #[.int .i64 f2, .int .i64 s2', .string ⟨nm2.toArray⟩, .int .i64 tk2, .int .i64 tl2, .int .i64 n2', .int .i64 m2, .slice ka2 kn2 kc2, .int .i64 a2, .int .i64 f3, .int .i64 s3', .string ⟨nm3.toArray⟩, .int .i64 tk3, .int .i64 tl3, .int .i64 n3', .int .i64 m3, .slice ka3 kn3 kc3, .int .i64 a3, .int .i64 f4, .int .i64 s4', .string ⟨nm4.toArray⟩, .int .i64 tk4, .int .i64 tl4, .int .i64 n4', .int .i64 m4, .slice ka4 kn4 kc4, .int .i64 a4] 85)) (w.heap.size + 3) [(Gram.Exp.mk f2 s2' nm2 tk2 tl2 n2' m2 ks2 a2), (Gram.Exp.mk f3 s3' nm3 tk3 tl3 n3' m3 ks3 a3), (Gram.Exp.mk f4 s4' nm4 tk4 tl4 n4' m4 ks4 a4)] (.slice (some ⟨w8.heap.size, 0, none⟩) 3 3) := Kids.three (owns_new (w := w8) (B := w.heap.size + 3) 85 9 3 (expCells (Gram.Exp.mk f2 s2' nm2 tk2 tl2 n2' m2 ks2 a2) (.slice ka2 kn2 kc2) ++ expCells (Gram.Exp.mk f3 s3' nm3 tk3 tl3 n3' m3 ks3 a3) (.slice ka3 kn3 kc3) ++ expCells (Gram.Exp.mk f4 s4' nm4 tk4 tl4 n4' m4 ks4 a4) (.slice ka4 kn4 kc4)) (by omega) rfl (by unfold maxLen; omega)) (RepC.mono (by omega) hk2) (RepC.mono (by omega) hk3) (RepC.mono (by omega) hk4)
 have hKL := Kids.setX (w := w) (by omega) 7 (.slice (some ⟨w8.heap.size, 0, none⟩) 3 3) hKL
 refine wpL_one (i := 6) (by kernel_rfl) ?_
 refine wpOp_step rfl (fun K' hK => ?_)
 split
 case isFalse hno => exact absurd rfl hno
 unfold Oper.wp
 go_simp
 refine hK _ _ ⟨fun hno => absurd (by simp) hno, ?_⟩
 clear hK K'
 refine wpL_done (by kernel_rfl) ?_ _
 have H : Wd w ((w8.alloc (.cells #[.int .i64 f2, .int .i64 s2', .string ⟨nm2.toArray⟩, .int .i64 tk2, .int .i64 tl2, .int .i64 n2', .int .i64 m2, .slice ka2 kn2 kc2, .int .i64 a2, .int .i64 f3, .int .i64 s3', .string ⟨nm3.toArray⟩, .int .i64 tk3, .int .i64 tl3, .int .i64 n3', .int .i64 m3, .slice ka3 kn3 kc3, .int .i64 a3, .int .i64 f4, .int .i64 s4', .string ⟨nm4.toArray⟩, .int .i64 tk4, .int .i64 tl4, .int .i64 n4', .int .i64 m4, .slice ka4 kn4 kc4, .int .i64 a4] 85)).setCell ⟨w.heap.size + 1 + 1, 7, none⟩ (.slice (some ⟨w8.heap.size, 0, none⟩) 3 3)) b g cap T (t4) (tO yk yt yn yu ya) #[.int .i64 5, .int .i64 0, .string ⟨#[]⟩, .int .i64 0, .int .i64 0, .int .i64 0, .int .i64 0, .slice (some ⟨w8.heap.size, 0, none⟩) 3 3, .int .i64 (ya : Int)] := Wd.set h H 7 (.slice (some ⟨w8.heap.size, 0, none⟩) 3 3)
 clear c0 c1 c2 c3 c4 c5 c6 c7 c8 cf
 obtain ⟨c0, c1, c2, c3, c4, c5, c6, c7, c8, cf⟩ := Nc.of H.x'
 refine Hid.out ?_
 have HF := ld H
 have hr1 := H.r
 have hgx := H.g'
 clear H
 refine ld ?_
 go_wp2_with (with_reducible refine hold_st 4 ?_)
 refine wpList_store_gen rfl _ _ _ rfl (w.heap.size + 1) #[.int .i64 5, .int .i64 0, .string ⟨#[]⟩, .int .i64 0, .int .i64 0, .int .i64 0, .int .i64 0, .slice (some ⟨w8.heap.size, 0, none⟩) 3 3, .int .i64 (ya : Int)] rfl rfl 85 _ hr1 (by kernel_rfl) rfl (by simp [Value.oneCell']) ?_
 intro w9 hh9 hg9
 go_wp2
 (try simp only [Exit.inBlock, Exit.then])
 refine br hh9 Tryz.underlying85 ?_
 have hG : w.grownBy w9 (some b) := hgx.andThen hg9 (fun j e => .inl (by cases e; omega))
 exact ⟨_, rfl, RepC.mono (by omega) (RepC.kept hg9 (fun k e => by cases e; omega) hKL), HH.out.to hG (HF.out.p.st.kept hg9 (by simp; omega)) HF.out.p.lt, hG⟩
end
end Go.Proofs.YtbbamgjdnibldaaGreat
