/- My texts GtI GtJ GtK GtL GtM, joined. -/
import Derived.Test.YtachmiajldeakaaGreatDoorMgG
set_option linter.unusedVariables false
/- gram's declarations: slices.Clone of edges, and what lists of variables need. -/
namespace Go.Proofs.YtachmiajldeakaaGreatDoor
open Go.RowKit Go.Maps Go.WideMaps

theorem flat_set {α : Type} (pre : List (List α)) (r : List α) (post : List (List α)) (c : Nat) (hc : c < r.length) (m : Nat) (hm : m = pre.flatten.length + c) (u : α) :
    (pre ++ r :: post).flatten.set m u = (pre ++ r.set c u :: post).flatten := by
  subst hm
  simp only [List.flatten_append, List.flatten_cons]
  rw [List.set_append, if_neg (by omega), Nat.add_sub_cancel_left, List.set_append, if_pos hc]
theorem vars_flat : ∀ l : List Gram.Var, (l.map varD).flatten.length = l.length * 5
  | [] => rfl
  | x :: r => by simp only [List.map_cons, List.flatten_cons, List.length_append, vars_flat r, List.length_cons]; simp [varD]; omega
/-- edges hold no lists -/
theorem repEdges {w w' : World} {B B' : Nat} {E E' : List Nat} : ∀ {l : List Gram.Edge} {xs : List Value}, RepRow w B E (l.map edgeD).flatten xs → RepRow w' B' E' (l.map edgeD).flatten xs
  | [], _, h => by
    have e : (([] : List Gram.Edge).map edgeD).flatten = [] := rfl
    rw [e] at h ⊢
    obtain rfl := h.nInv
    exact .nil
  | x :: r, xs, h => by
    have e : ((x :: r).map edgeD).flatten = .c (.string ⟨x.name.toArray⟩) :: .c (.bool x.on) :: (r.map edgeD).flatten := rfl
    rw [e] at h ⊢
    obtain ⟨u1, rfl, h1⟩ := h.cInv
    obtain ⟨u2, rfl, h2⟩ := h1.cInv
    exact .cons (.c _) (.cons (.c _) (repEdges h2))
theorem edges_one {w : World} {B : Nat} {E : List Nat} : ∀ {l : List Gram.Edge} {xs : List Value}, RepRow w B E (l.map edgeD).flatten xs → ∀ u ∈ xs, u.oneCell' = true
  | [], _, h => by
    have e : (([] : List Gram.Edge).map edgeD).flatten = [] := rfl
    rw [e] at h
    obtain rfl := h.nInv
    intro u hu
    cases hu
  | x :: r, xs, h => by
    have e : ((x :: r).map edgeD).flatten = .c (.string ⟨x.name.toArray⟩) :: .c (.bool x.on) :: (r.map edgeD).flatten := rfl
    rw [e] at h
    obtain ⟨u1, rfl, h1⟩ := h.cInv
    obtain ⟨u2, rfl, h2⟩ := h1.cInv
    intro u hu
    rcases List.mem_cons.1 hu with rfl | hu
    · rfl
    rcases List.mem_cons.1 hu with rfl | hu
    · rfl
    exact edges_one h2 u hu

/-- one cell of a list that is being made -/
theorem GrowD.put {w : World} {B : Nat} {e : TypeId} {sz g n cap : Nat} {rows rows' : List (List D)} (h : GrowD w B e sz rows (.slice (some ⟨g, 0, none⟩) n cap)) (j : Nat) {d' : D} {u : Value} (hu : RepC w B [g] d' u) (hl : rows'.length = rows.length) (hfl : rows'.flatten = rows.flatten.set j d') :
    GrowD (w.setCell ⟨g, j, none⟩ u) B e sz rows' (.slice (some ⟨g, 0, none⟩) n cap) := by
  obtain ⟨xs, ho, hx⟩ := h
  have hn : rows.length = n := by
    rcases ho.2 with ⟨h', _⟩ | ⟨g', cap', cur, h', _⟩
    · simp at h'
    · simp only [Value.slice.injEq] at h'; exact h'.2.1.symm
  rw [hn] at ho
  obtain ⟨h1, h2⟩ := ho.stored j u
  refine ⟨xs.set j u, by rw [hl, hn]; exact h1, ?_⟩
  rw [hfl]
  have hx2 : RepRow w B [g] rows.flatten xs := hx
  exact RepRow.keptX h2 (fun k e => .inr (by cases e; simp [Value.ownBlock])) (hx2.set j hu)
theorem GrowD.there {w : World} {B : Nat} {e : TypeId} {sz g n cap : Nat} {rows : List (List D)} (h : GrowD w B e sz rows (.slice (some ⟨g, 0, none⟩) n cap)) (j : Nat) (hj : j < rows.length * sz) : ∃ u, w.cell? ⟨g, j, none⟩ = some u := by
  obtain ⟨xs, ho, hx⟩ := h
  have hn : rows.length = n := by
    rcases ho.2 with ⟨h', _⟩ | ⟨g', cap', cur, h', _⟩
    · simp at h'
    · simp only [Value.slice.injEq] at h'; exact h'.2.1.symm
  have hl := ho.1
  rw [hn] at ho
  have h1 := owns_there ho j 1 (by omega) 0 (by omega)
  exact Option.isSome_iff_exists.1 h1.1
theorem GrowD.free {w : World} {B : Nat} {e : TypeId} {sz g n cap : Nat} {rows : List (List D)} (h : GrowD w B e sz rows (.slice (some ⟨g, 0, none⟩) n cap)) (j : Nat) : w.frozen? ⟨g, j, none⟩ = false := by
  obtain ⟨xs, ho, hx⟩ := h
  have hn : rows.length = n := by
    rcases ho.2 with ⟨h', _⟩ | ⟨g', cap', cur, h', _⟩
    · simp at h'
    · simp only [Value.slice.injEq] at h'; exact h'.2.1.symm
  rw [hn] at ho
  exact ho.frozenAt j

theorem eq_nil_nil (w : World) : (binOp BinOp.eql 137 (.slice none 0 0) (.slice none 0 0)).run Tryz.prog w = .ok (.bool true) w := by kernel_rfl
theorem eq_some_nil (a : Addr) (n c : Nat) (w : World) : (binOp BinOp.eql 137 (.slice (some a) n c) (.slice none 0 0)).run Tryz.prog w = .ok (.bool false) w := by kernel_rfl

set_option maxHeartbeats 1600000 in
set_option maxRecDepth 20000 in
theorem gclone_edges (l : List Gram.Edge) (v : Value) (B : Nat) (w : World) (hl : l.length ≤ 16) (h : RepC w B [] (.l 150 2 (l.map edgeD)) v) :
    Calls Tryz.prog 151 #[v] w fun e w' => ∃ v', e = .returned v' ∧ GrowD w' w.heap.size 150 2 (l.map edgeD) v' ∧ w.grownBy w' none := by
  obtain ⟨it, hit, hz, hsz, hby⟩ := infoP info_Edge
  cases h with
  | @l _ _ _ _ xs ho _ hx =>
    rw [List.length_map] at ho
    have hh := ho
    rcases ho.2 with ⟨rfl, h0⟩ | ⟨gg, cc, cur, rfl, hb, hg, hc1, hc2, hc3, hc4⟩
    · have e0 : l = [] := List.length_eq_zero_iff.1 h0
      subst e0
      have hq := eq_nil_nil
      go_enter Tryz.func151, Tryz.ntmps151
      go_wp2
      go_ret
      exact ⟨_, rfl, GrowD.nil _ _ _ _, World.grownBy.refl _ _⟩
    · have hone := edges_one hx
      have hcell : ∀ (o : Obj) (j : Nat) (u : Value), xs[j]? = some u → (w.alloc o).cell? ((⟨gg, 0, none⟩ : Addr).add j) = some u := by
        intro o j u hj
        have hgl : gg < w.heap.size := (Array.getElem?_eq_some_iff.1 hg).1
        rw [Addr.add_mid, Nat.zero_add, cell_of_row (w.alloc o) gg j _ _ _ ((heap_alloc_old w o hgl).trans hg), ← Array.getElem?_toList]
        rw [← hc4] at hj
        rw [List.getElem?_take] at hj
        split at hj
        · exact hj
        · cases hj
      have hxl : xs.length = l.length * 2 := hh.1
      clear hg hc1 hc2 hc3 hc4
      have hq := eq_some_nil ⟨gg, 0, none⟩ l.length cc
      go_enter Tryz.func151, Tryz.ntmps151
      go_wp2_with (at_builtin; refine wpList_append_own_at _ rfl _ _ 137 rfl w.heap.size 150 it _ 2 24 Tryz.underlying137 hit hz hsz hby rfl (by decide) _ 0 [] rfl (owns_new 150 2 0 [] (Nat.le_refl _) rfl (by unfold maxLen; omega)) ⟨gg, 0, none⟩ l.length cc xs rfl hxl (hcell _) hone ?_ ?_ ?_ ?_)
      · unfold maxLen; omega
      · omega
      · simp
      intro v' w3 hown' hgrow3 _ hvb
      go_wp2
      go_ret
      refine ⟨_, rfl, ⟨xs, ?_, repEdges hx⟩, ?_⟩
      · rw [List.length_map]; simpa using hown'
      · exact (World.grownBy_alloc w _ none).andThen hgrow3 (fun j e => .inl (by simp [Value.ownBlock] at e; omega))

end Go.Proofs.YtachmiajldeakaaGreatDoor

/- gram's decl and decls. -/
namespace Go.Proofs.YtachmiajldeakaaGreatDoor
open Go.RowKit Go.Maps Go.WideMaps

/-- a list of variables is under way, made since w0, all in blocks from B on; the parser stands at i -/
structure Ds (w0 w : World) (b g cap : Nat) (rv : Value) (T : List Lex.Tk) (B i d : Nat) (vs : List Gram.Var) (v : Value) : Prop where
  p0 : ∃ i0, Pa w0 b g cap rv T i0 d
  pa : Pa w b g cap rv T i d
  gr : w0.grownBy w (some b)
  lo : w0.heap.size ≤ B
  Bs : B ≤ w.heap.size
  gro : GrowD w B 139 5 (vs.map varD) v
section
variable {w0 w w' : World} {b g cap : Nat} {rv : Value} {T : List Lex.Tk} {B i j d : Nat} {vs : List Gram.Var} {v : Value}
theorem Ds.bl (h : Ds w0 w b g cap rv T B i d vs v) : b < w0.heap.size := by
  obtain ⟨i0, h0⟩ := h.p0
  exact h0.bl
theorem Ds.bB (h : Ds w0 w b g cap rv T B i d vs v) : b < B := Nat.lt_of_lt_of_le h.bl h.lo
theorem Ds.on (h : Ds w0 w b g cap rv T B i d vs v) (hg : w.grownBy w' (some b)) (hp : Pa w' b g cap rv T j d) : Ds w0 w' b g cap rv T B j d vs v :=
  ⟨h.p0, hp, h.gr.trans hg, h.lo, Nat.le_trans h.Bs hg.size, h.gro.keptB hg h.bB⟩
theorem Ds.kept0 (h : Ds w0 w b g cap rv T B i d vs v) (hg : w.grownBy w' none) : Ds w0 w' b g cap rv T B i d vs v := h.on (grown_some hg b) (h.pa.kept hg)
theorem Ds.ge (h : Ds w0 w b g cap rv T B i d vs v) : ∀ k, v.ownBlock = some k → B ≤ k := h.gro.ge
/-- what is written in the list's own block -/
theorem Ds.by {us : List Gram.Var} {u : Value} (h : Ds w0 w b g cap rv T B i d vs v) (hg : w.grownBy w' v.ownBlock) (hgro : GrowD w' B 139 5 (us.map varD) u) : Ds w0 w' b g cap rv T B i d us u := by
  obtain ⟨i0, h0⟩ := h.p0
  have hG : w0.grownBy w' (some b) := h.gr.andThen hg (fun k e => .inl (Nat.le_trans h.lo (h.ge k e)))
  exact ⟨h.p0, h0.to hG (h.pa.st.kept hg (by intro e; have := h.ge b e.symm; have := h.bB; omega)) h.pa.lt, hG, h.lo, Nat.le_trans h.Bs hg.size, hgro⟩
end
/-- what a part that reads on a list of variables does -/
def dPost (w0 : World) (b g cap : Nat) (rv : Value) (T : List Lex.Tk) (B d : Nat) (r : Gram.PR (List Gram.Var)) (e : Ending) (w' : World) : Prop :=
  match r with
  | .ok vs j => ∃ v, e = .returned v ∧ Ds w0 w' b g cap rv T B j d vs v
  | .bad a er => gBad w0 b a er e w'
  | .fuel => False
theorem Ds.put {w0 w : World} {b g cap : Nat} {rv : Value} {T : List Lex.Tk} {B i d gg n cp : Nat} {A C : List Gram.Var} {x x' : Gram.Var} (h : Ds w0 w b g cap rv T B i d (A ++ x :: C) (.slice (some ⟨gg, 0, none⟩) n cp)) (c : Nat) (hc : c < 5) {d' : D} {u : Value} (hx : (varD x).set c d' = varD x') (hu : RepC w B [gg] d' u) (m : Nat) (hm : m = A.length * 5 + c) :
    Ds w0 (w.setCell ⟨gg, m, none⟩ u) b g cap rv T B i d (A ++ x' :: C) (.slice (some ⟨gg, 0, none⟩) n cp) := by
  refine h.by (grown_set w ⟨gg, m, none⟩ u) (h.gro.put m hu (by simp) ?_)
  simp only [List.map_append, List.map_cons]
  rw [flat_set _ _ _ c (by simpa [varD] using hc) m (by rw [vars_flat]; exact hm), hx]
def mkV (n : Gram.B × Int) : Gram.Var := ⟨n.1, 0, 0, [], n.2⟩
def mkT (t : Int × Int) (n : Gram.B × Int) : Gram.Var := ⟨n.1, t.1, t.2, [], n.2⟩

section
variable (b g cap : Nat) (rv : Value) (T : List Lex.Tk) (d : Nat)

set_option maxHeartbeats 6400000 in
set_option maxRecDepth 20000 in
theorem gdecl_any (f : Nat) (w0 w : World) (B i : Nat) (vars : List Gram.Var) (v : Value) (h : Ds w0 w b g cap rv T B i d vars v) (hf : (Gram.decl T f vars i).isFuel = false) :
    Calls Tryz.prog 122 #[.pointer (some ⟨b, 0, none⟩), v] w fun e w' => dPost w0 b g cap rv T B d (Gram.decl T f vars i) e w' := by
  obtain ⟨it, hit, hz, hsz, hby⟩ := infoP info_Var
  obtain ⟨R, hR⟩ : ∃ R, R = Gram.decl T f vars i := ⟨_, rfl⟩
  rw [← hR] at hf ⊢
  unfold Gram.decl at hR
  have HR := Lib.hid hR
  clear hR
  have hbw := h.bl
  have hbB := h.bB
  have hlo := h.lo
  have hlen0 : ∀ (ty : TypeId) (wx : World), (Builtin.len_ #[42] ty #[v]).run Tryz.prog wx = .ok (.int .i64 (vars.length : Int)) wx := by
    obtain ⟨xs, ho, _⟩ := h.gro
    rw [List.length_map] at ho
    exact fun ty wx => len_Var ho ty wx
  have HH := Lib.hid h
  clear h
  go_enter Tryz.func122, Tryz.ntmps122
  go_wp2
  go_loopg [1, 6] f (fun (f' : Nat) (s1 : Value) (s6 : Value) (wr : World) => ∃ (acc : List (Gram.B × Int)) (j : Nat), f' ≤ f ∧ Hid (Ds w0 wr b g cap rv T B j d (vars ++ acc.map mkV) s1 ∧ ((s6 = .bool true ∧ Gram.names T f' acc vars.length j = Gram.names T f [] vars.length i) ∨ (s6 = .bool false ∧ Gram.names T f [] vars.length i = .ok acc j))))
  case atStart => exact ⟨[], i, Nat.le_refl _, Lib.hid ⟨by simpa using HH.out, .inl ⟨rfl, rfl⟩⟩⟩
  case round =>
    obtain ⟨acc, j, hff, HG⟩ := hrel
    obtain ⟨hD, hL⟩ := HG.out
    clear HG hlen0
    have hP := hD.pa
    have hlf : ∀ (ty : TypeId) (wx : World), (Builtin.len_ #[42] ty #[u1]).run Tryz.prog wx = .ok (.int .i64 ((vars.length + acc.length : Nat) : Int)) wx := by
      obtain ⟨xs, ho, _⟩ := hD.gro
      rw [List.length_map, List.length_append, List.length_map] at ho
      exact fun ty wx => len_Var ho ty wx
    rcases hL with ⟨rfl, hL⟩ | ⟨rfl, hL⟩
    · rcases Nat.eq_zero_or_pos gk with hz0 | hz0
      · rw [hz0] at hL; rw [HR.out, ← hL] at hf; exact absurd hf (by simp [Gram.names, Gram.PR.isFuel, Gram.PR.bind])
      obtain ⟨f', hfe⟩ : ∃ f', gk = f' + 1 := ⟨gk - 1, by omega⟩
      subst hfe
      have hr : Gram.names T f [] vars.length i = Gram.need T j (Gram.isName T j) (Gram.room T j (vars.length + acc.length) 200 (if Gram.sees T (j + 1) [44] then Gram.names T f' (acc ++ [((Gram.tk T j).text, ((Gram.tk T j).at_ : Int))]) vars.length (j + 2) else .ok (acc ++ [((Gram.tk T j).text, ((Gram.tk T j).at_ : Int))]) (j + 1))) := by rw [← hL]; conv => lhs; unfold Gram.names
      have HN := Lib.hid hr
      clear hr hL
      have hsn := gname_sees b g cap rv T j d wr hP
      have hy := fun wx => gneed_yes b wx
      have HD := Lib.hid hD
      clear hD
      rcases Bool.eq_false_or_eq_true (Gram.isName T j) with hs | hs
      case inr =>
        rw [hs] at hsn
        have hno := fun wx (hx : wr.grownBy wx none) => gneed_no b g cap rv T j d wx (hP.kept hx)
        have HE : Hid (R = .bad ((Gram.tk T j).at_ : Int) 12) := by show _ = _; rw [HR.out, HN.out]; unfold Gram.need Gram.fail; rw [if_neg (by rw [hs]; decide)]; rfl
        clear HN HR
        go_wp2_with (first | (go_at_call 121; refine hsn.mono ?_; rintro e w1 ⟨rfl, hg1⟩) | (go_at_call 36; refine (hno _ hg1).mono ?_; rintro e w2 ⟨rfl, hg2⟩))
        refine ⟨rfl, ?_⟩
        rw [HE.out]
        exact ⟨rfl, HD.out.gr.trans ((grown_some hg1 b).trans hg2)⟩
      rw [hs] at hsn
      by_cases hm : 200 ≤ vars.length + acc.length
      · have hrm := fun wx (hx : wr.grownBy wx none) => groom_no b g cap rv T j d ((vars.length + acc.length : Nat) : Int) 200 (by omega) wx (hP.kept hx)
        have HE : Hid (R = .bad ((Gram.tk T j).at_ : Int) 2) := by show _ = _; rw [HR.out, HN.out]; unfold Gram.need Gram.room Gram.fail; rw [if_pos hs, if_pos hm]; rfl
        clear HN HR
        go_wp2_with (first | (go_at_call 121; refine hsn.mono ?_; rintro e w1 ⟨rfl, hg1⟩) | (go_at_call 36; refine (hy _).mono ?_; rintro e w9 ⟨rfl, hw9⟩; rw [hw9]; clear hw9) | (go_at_call 75; refine (hrm _ hg1).mono ?_; rintro e w2 ⟨rfl, hg2⟩))
        refine ⟨rfl, ?_⟩
        rw [HE.out]
        exact ⟨rfl, HD.out.gr.trans ((grown_some hg1 b).trans hg2)⟩
      have hrm := fun wx => groom_yes b ((vars.length + acc.length : Nat) : Int) 200 (by omega) wx
      have hi := name_adv hP hs
      have htk := fun wx (hx : wr.grownBy wx none) => gtake_any b g cap rv T j d wx (hP.kept hx) hi
      have HE : Hid (Gram.names T f [] vars.length i = if Gram.sees T (j + 1) [44] then Gram.names T f' (acc ++ [((Gram.tk T j).text, ((Gram.tk T j).at_ : Int))]) vars.length (j + 2) else .ok (acc ++ [((Gram.tk T j).text, ((Gram.tk T j).at_ : Int))]) (j + 1)) := by show _ = _; rw [HN.out]; unfold Gram.need Gram.room; rw [if_pos hs, if_neg hm]
      have HM := Lib.hid hm
      clear HN hm
      have hxx : tokV (Gram.tk T j) = .agg #[.int .i64 (Gram.tk T j).kind, .string ⟨(Gram.tk T j).text.toArray⟩, .int .i64 (Gram.tk T j).n, .int .i64 (Gram.tk T j).t, .int .i64 0, .int .i64 ((Gram.tk T j).at_ : Int)] := rfl
      rw [hxx] at htk
      clear hxx
      generalize Gram.tk T j = x at htk HE
      go_wp2_with (first | (go_at_call 121; refine hsn.mono ?_; rintro e w1 ⟨rfl, hg1⟩) | (go_at_call 36; refine (hy _).mono ?_; rintro e w9 ⟨rfl, hw9⟩; rw [hw9]; clear hw9) | (go_at_call 75; refine (hrm _).mono ?_; rintro e w8 ⟨rfl, hw8⟩; rw [hw8]; clear hw8) | (go_at_call 120; refine (htk _ hg1).mono ?_; rintro e w2 ⟨rfl, hP2, hg2⟩; refine Hid.out ?_))
      have hgA : wr.grownBy w2 (some b) := (grown_some hg1 b).trans hg2
      have hD2 := HD.out.on hgA hP2
      have hDa := hD2.kept0 (World.grownBy_alloc w2 (tokB x) none)
      have hDb := hDa.kept0 (World.grownBy_alloc (w2.alloc (tokB x)) (.cells #[.string ⟨x.text.toArray⟩, .int .i64 0, .int .i64 0, .slice none 0 0, .int .i64 (x.at_ : Int)] 139) none)
      obtain ⟨xs2, ho2, hr2⟩ := hDb.gro
      rw [List.length_map, List.length_append, List.length_map] at ho2
      have hl200 := HM.out
      have hge := hDb.ge
      have hlt9 := hD2.gro.lt
      refine Lib.hid ?_
      unfold tokB at ho2 hr2 hDa hDb
      go_wp2_with (at_builtin; refine wpList_append_own_at _ rfl _ _ 42 rfl B 139 it _ 5 64 Tryz.underlying42 hit hz hsz hby rfl (by decide) _ (vars.length + acc.length) xs2 rfl ho2 ⟨w2.heap.size + 1, 0, none⟩ 1 1 [.string ⟨x.text.toArray⟩, .int .i64 0, .int .i64 0, .slice none 0 0, .int .i64 (x.at_ : Int)] rfl rfl ?_ (by simp [Value.oneCell']) ?_ ?_ ?_ ?_)
      · have e := cell_row_new (w2.alloc (.cells #[.int .i64 x.kind, .string ⟨x.text.toArray⟩, .int .i64 x.n, .int .i64 x.t, .int .i64 0, .int .i64 (x.at_ : Int)] 100)) [.string ⟨x.text.toArray⟩, .int .i64 0, .int .i64 0, .slice none 0 0, .int .i64 (x.at_ : Int)] 139
        rw [World.size_alloc] at e
        exact e
      · unfold maxLen; omega
      · omega
      · exact hDb.Bs
      intro v' w3 hown' hgrow3 _ hvb
      have hG3 : GrowD w3 B 139 5 ((vars ++ acc.map mkV).map varD ++ [varD (mkV (x.text, (x.at_ : Int)))]) v' := growD_snoc hgrow3 (by rw [List.length_map, List.length_append, List.length_map]; exact hown') hr2 (.cons (.c _) (.cons (.c _) (.cons (.c _) (.cons (RepC.nil _ _ _ _ _) (.cons (.c _) .nil))))) (by rw [World.size_alloc, World.size_alloc]; exact hvb)
      have hD3 : Ds w0 w3 b g cap rv T B (j + 1) d (vars ++ (acc ++ [(x.text, (x.at_ : Int))]).map mkV) v' := hDb.by hgrow3 (by
        have e : (vars ++ (acc ++ [(x.text, (x.at_ : Int))]).map mkV).map varD = (vars ++ acc.map mkV).map varD ++ [varD (mkV (x.text, (x.at_ : Int)))] := by simp
        rw [e]; exact hG3)
      have hP3 := hD3.pa
      have HD3 := Lib.hid hD3
      clear hG3 hD3 hown' hvb hDb hDa hD2
      rcases Bool.eq_false_or_eq_true (Gram.sees T (j + 1) [44]) with hsx | hsx
      · have hAc := gaccept_yes b g cap rv T (j + 1) d ⟨#[44]⟩ w3 hP3 hsx (hP3.nextSees hsx (by decide))
        go_wp2_with (go_at_call 123; refine hAc.mono ?_; rintro e w4 ⟨rfl, hP4, hg4⟩)
        go_roundg f'
        case measure => exact Nat.lt_succ_self _
        case rel => exact ⟨acc ++ [(x.text, (x.at_ : Int))], j + 2, by omega, Lib.hid ⟨HD3.out.on hg4 hP4, .inl ⟨rfl, by rw [HE.out, if_pos hsx]⟩⟩⟩
      · have hAc := gaccept_no b g cap rv T (j + 1) d ⟨#[44]⟩ w3 hP3 hsx
        go_wp2_with (go_at_call 123; refine hAc.mono ?_; rintro e w4 ⟨rfl, hg4⟩)
        go_roundg f'
        case measure => exact Nat.lt_succ_self _
        case rel => exact ⟨acc ++ [(x.text, (x.at_ : Int))], j + 1, by omega, Lib.hid ⟨HD3.out.kept0 hg4, .inr ⟨rfl, by rw [HE.out, if_neg (by rw [hsx]; decide)]⟩⟩⟩
    · have HR1 : Hid (R = (Gram.expect T j [58]).bind fun _ j => (Gram.ty T j).bind fun t j => .ok (vars ++ acc.map (mkT t)) j) := by show _ = _; rw [HR.out, hL]; rfl
      clear HR hL
      have HD := Lib.hid hD
      clear hD
      rcases Bool.eq_false_or_eq_true (Gram.sees T j [58]) with e1 | e1
      case inr =>
        have hN := gexpect_no b g cap rv T j d ⟨#[58]⟩ _ hP e1
        go_wp2_with (first | (go_at_call 77; refine hN.mono ?_; rintro e w9 ⟨rfl, hgz⟩))
        refine ⟨rfl, ?_⟩
        rw [HR1.out, Gram.expect_no e1]
        exact ⟨rfl, HD.out.gr.trans hgz⟩
      have hN := gexpect_yes b g cap rv T j d ⟨#[58]⟩ _ hP e1 (hP.nextSees e1 (by decide))
      have HR2 : Hid (R = (Gram.ty T (j + 1)).bind fun t j => .ok (vars ++ acc.map (mkT t)) j) := by show _ = _; rw [HR1.out, Gram.expect_yes e1]; rfl
      clear HR1
      go_wp2_with (first | (go_at_call 77; refine hN.mono ?_; rintro e w2 ⟨rfl, hP2, hg2⟩; refine Hid.out ?_))
      have hD2 := HD.out.on hg2 hP2
      have hT := gty_any b g cap rv T d (j + 1) w2 hP2
      have HD2 := Lib.hid hD2
      clear hD2 HD
      cases hr : Gram.ty T (j + 1) with
      | fuel => rw [HR2.out, hr] at hf; cases hf
      | bad a er =>
        rw [hr] at hT
        simp only [tyPost] at hT
        refine Lib.hid ?_
        go_wp2_with (first | (go_at_call 147; refine hT.mono ?_; rintro e w9 ⟨rfl, hgz⟩))
        refine ⟨rfl, ?_⟩
        rw [HR2.out, hr]
        exact ⟨rfl, HD2.out.gr.trans hgz⟩
      | ok t k =>
      obtain ⟨tk, tl⟩ := t
      rw [hr] at hT
      simp only [tyPost] at hT
      have HR3 : Hid (R = .ok (vars ++ acc.map (mkT (tk, tl))) k) := by show _ = _; rw [HR2.out, hr]; rfl
      clear HR2 hr
      refine Lib.hid ?_
      go_wp2_with (first | (go_at_call 147; refine hT.mono ?_; rintro e w3 ⟨rfl, hP3, hg3⟩; refine Hid.out ?_))
      have hD3 := (HD2.out.on hg3 hP3).kept0 (World.grownBy_alloc w3 (.cells #[.int .i64 tk, .int .i64 tl] 25) none)
      have hvlt := (HD2.out.on hg3 hP3).gro.lt
      have HD3 := Lib.hid hD3
      have hy8 : ∀ k, u1.ownBlock = some k → k < w3.heap.size := fun k e => hvlt k (by rw [e]; simp)
      clear hD3 hvlt hT hN
      refine Lib.hid ?_
      go_wp2
      obtain ⟨N, hNe⟩ : ∃ N, N = vars.length + acc.length := ⟨_, rfl⟩
      rw [← hNe] at hlf
      have HNe := Lib.hid hNe
      clear hNe
      go_loopg [9] acc.length (fun (gz : Nat) (s9 : Value) (wq : World) => ∃ (M m : Nat), Hid (M = vars.length + m) ∧ m + gz = acc.length ∧ s9 = .int .i64 (M : Int) ∧ wq.cell? ⟨w3.heap.size, 0, none⟩ = some (.int .i64 tk) ∧ wq.cell? ⟨w3.heap.size, 1, none⟩ = some (.int .i64 tl) ∧ Hid (Ds w0 wq b g cap rv T B k d (vars ++ (acc.take m).map (mkT (tk, tl)) ++ (acc.drop m).map mkV) u1))
      case atStart =>
        obtain ⟨z0, z1, _⟩ := cells_2 (heap_alloc_new w3 (.cells #[.int .i64 tk, .int .i64 tl] 25))
        exact ⟨vars.length, 0, Lib.hid rfl, by omega, rfl, z0, z1, Lib.hid (by simpa using HD3.out)⟩
      case round =>
        obtain ⟨M, m, HM9, hm, rfl, c0, c1, HD4⟩ := hrel
        have hN2 := HNe.out
        have hM := HM9.out
        rcases Nat.eq_zero_or_pos gk with hz1 | hz1
        · have hnl : ¬ (M : Int) < (N : Int) := by omega
          have hme : m = acc.length := by omega
          have HD5 : Hid (Ds w0 wr b g cap rv T B k d (vars ++ acc.map (mkT (tk, tl))) u1) := by
            refine Lib.hid ?_
            have e := HD4.out
            rw [hme, List.take_length, List.drop_length] at e
            simpa using e
          clear HD4 HD3 HD2 hN2 hM hme hm
          go_wp2
          go_ret
          rw [HR3.out]
          exact ⟨_, rfl, HD5.out⟩
        · have hlt : (M : Int) < (N : Int) := by omega
          have hnn : ¬ (M : Int) < 0 := by omega
          have hml : m < acc.length := by omega
          obtain ⟨f9, hfe9⟩ : ∃ f9, gk = f9 + 1 := ⟨gk - 1, by omega⟩
          have hdr : acc.drop m = acc[m] :: acc.drop (m + 1) := List.drop_eq_getElem_cons hml
          obtain ⟨a, ha⟩ : ∃ a, a = acc[m] := ⟨_, rfl⟩
          rw [← ha] at hdr
          have hD4 := HD4.out
          rw [hdr, List.map_cons] at hD4
          have hge4 := hD4.ge
          have hgr4 := hD4.gro
          obtain ⟨xs4, ho4, _⟩ := hD4.gro
          have hl4 : (vars ++ List.map (mkT (tk, tl)) (List.take m acc) ++ mkV a :: List.map mkV (List.drop (m + 1) acc)).length = N := by
            simp only [List.length_append, List.length_map, List.length_cons, List.length_take, List.length_drop]; omega
          rw [List.length_map, hl4] at ho4
          rcases ho4.2 with ⟨e4, h40⟩ | ⟨gg, cc, cur, e4, hb4, _, hncc, hccm, _⟩
          · omega
          subst e4
          have hMb : (M : Int) + 1 < 9223372036854775808 := by unfold maxLen at hccm; omega
          have hgg : gg < w3.heap.size := hy8 gg rfl
          have hA : (vars ++ List.map (mkT (tk, tl)) (List.take m acc)).length = M := by
            simp only [List.length_append, List.length_map, List.length_take]; omega
          obtain ⟨q1, hq1⟩ := hgr4.there (M * 5 + 1) (by rw [List.length_map, hl4]; omega)
          obtain ⟨q2, hq2⟩ := hgr4.there (M * 5 + 1 + 1) (by rw [List.length_map, hl4]; omega)
          have hfz := hgr4.free
          have hn3 : ¬ gg = w3.heap.size := by omega
          have hn3' : ¬ w3.heap.size = gg := by omega
          have hD5 := hD4.put 1 (by omega) (x' := ⟨a.1, tk, 0, [], a.2⟩) (d' := .c (.int .i64 tk)) (u := .int .i64 tk) rfl (.c _) (M * 5 + 1) (by rw [hA])
          have hD6 := hD5.put 2 (by omega) (x' := ⟨a.1, tk, tl, [], a.2⟩) (d' := .c (.int .i64 tl)) (u := .int .i64 tl) rfl (.c _) (M * 5 + 1 + 1) (by rw [hA])
          have HD6 : Hid (Ds w0 ((wr.setCell ⟨gg, M * 5 + 1, none⟩ (.int .i64 tk)).setCell ⟨gg, M * 5 + 1 + 1, none⟩ (.int .i64 tl)) b g cap rv T B k d (vars ++ (acc.take (m + 1)).map (mkT (tk, tl)) ++ (acc.drop (m + 1)).map mkV) (.slice (some ⟨gg, 0, none⟩) N cc)) := by
            refine Lib.hid ?_
            have e : vars ++ (acc.take (m + 1)).map (mkT (tk, tl)) ++ (acc.drop (m + 1)).map mkV = vars ++ List.map (mkT (tk, tl)) (List.take m acc) ++ (⟨a.1, tk, tl, [], a.2⟩ : Gram.Var) :: List.map mkV (List.drop (m + 1) acc) := by
              rw [List.take_add_one, List.getElem?_eq_getElem hml, ← ha]
              simp [mkT]
            rw [e]
            exact hD6
          have hc0 : ((wr.setCell ⟨gg, M * 5 + 1, none⟩ (.int .i64 tk)).setCell ⟨gg, M * 5 + 1 + 1, none⟩ (.int .i64 tl)).cell? ⟨w3.heap.size, 0, none⟩ = some (.int .i64 tk) := ((grown_set _ ⟨gg, M * 5 + 1, none⟩ _).trans (grown_set _ ⟨gg, M * 5 + 1 + 1, none⟩ _)).cell c0 (by simp; omega)
          have hc1 : ((wr.setCell ⟨gg, M * 5 + 1, none⟩ (.int .i64 tk)).setCell ⟨gg, M * 5 + 1 + 1, none⟩ (.int .i64 tl)).cell? ⟨w3.heap.size, 1, none⟩ = some (.int .i64 tl) := ((grown_set _ ⟨gg, M * 5 + 1, none⟩ _).trans (grown_set _ ⟨gg, M * 5 + 1 + 1, none⟩ _)).cell c1 (by simp; omega)
          have HC : Hid _ := Lib.hid (And.intro hc0 hc1)
          clear hD4 hD5 hD6 HD4 HD3 HD2 hc0 hc1 hgr4 ho4 hdr ha hN2 hM hl4 hA
          go_wp2
          subst hfe9
          go_roundg f9
          case measure => exact Nat.lt_succ_self _
          case rel => exact ⟨M + 1, m + 1, Lib.hid (by rw [HM9.out]; omega), by omega, by simp, HC.out.1, HC.out.2, HD6⟩
end

end Go.Proofs.YtachmiajldeakaaGreatDoor

/- gram's decls, local and locals. -/
namespace Go.Proofs.YtachmiajldeakaaGreatDoor
open Go.RowKit Go.Maps Go.WideMaps

namespace Gram
theorem decl_more {T : List Lex.Tk} {f : Nat} {vars vs : List Var} {i j : Nat} (h : decl T f vars i = .ok vs j) : ∃ nw, vs = vars ++ nw := by
  unfold decl at h
  cases h1 : names T f [] vars.length i with
  | fuel => rw [h1] at h; cases h
  | bad => rw [h1] at h; cases h
  | ok ns k =>
    rw [h1, PR.ok_bind] at h
    cases h2 : expect T k [58] with
    | fuel => rw [h2] at h; cases h
    | bad => rw [h2] at h; cases h
    | ok t m =>
      rw [h2, PR.ok_bind] at h
      cases h3 : ty T m with
      | fuel => rw [h3] at h; cases h
      | bad => rw [h3] at h; cases h
      | ok t n => rw [h3, PR.ok_bind] at h; cases h; exact ⟨_, rfl⟩
theorem edges_len (T : List Lex.Tk) : ∀ (f : Nat) (acc : List Edge) (i : Nat) (l : List Edge) (j : Nat), edges T f acc i = .ok l j → l.length ≤ 16
  | 0, acc, i, l, j, h => by unfold edges at h; cases h
  | f + 1, acc, i, l, j, h => by
    unfold edges need room at h
    split at h
    · split at h
      · cases h
      · rename_i hm
        cases hx : edge T i with
        | fuel => rw [hx] at h; cases h
        | bad => rw [hx] at h; cases h
        | ok e k =>
          rw [hx, PR.ok_bind] at h
          by_cases hs : sees T k [97, 110, 100] = true
          · rw [if_pos hs] at h
            exact edges_len T f _ _ l j h
          · rw [if_neg hs] at h
            cases h; simp; omega
    · cases h
end Gram
def clk (c : List Gram.Edge) (v : Gram.Var) : Gram.Var := { v with clock := c }

section
variable (b g cap : Nat) (rv : Value) (T : List Lex.Tk) (d : Nat)

theorem Ds.start {b g cap : Nat} {rv : Value} {T : List Lex.Tk} {d i : Nat} {w : World} (h : Pa w b g cap rv T i d) : Ds w w b g cap rv T w.heap.size i d [] (.slice none 0 0) :=
  ⟨⟨i, h⟩, h, World.grownBy.refl _ _, Nat.le_refl _, Nat.le_refl _, GrowD.nil _ _ _ _⟩

set_option maxHeartbeats 3200000 in
set_option maxRecDepth 20000 in
theorem gdecls_any (f i : Nat) (w : World) (h : Pa w b g cap rv T i d) (hf : (Gram.decls T f [] i).isFuel = false) :
    Calls Tryz.prog 79 #[.pointer (some ⟨b, 0, none⟩)] w fun e w' => lPost varD 139 5 w b g cap rv T d (Gram.decls T f [] i) e w' := by
  obtain ⟨R, hR⟩ : ∃ R, R = Gram.decls T f [] i := ⟨_, rfl⟩
  rw [← hR] at hf ⊢
  cases f with
  | zero => rw [hR] at hf; unfold Gram.decls at hf; cases hf
  | succ f =>
  unfold Gram.decls at hR
  have hd1 := gdecl_any b g cap rv T d f w w w.heap.size i [] (.slice none 0 0) (Ds.start h) (by rw [hR] at hf; exact Gram.PR.bind_fuel hf)
  have HR := Lib.hid hR
  clear hR h
  cases hr : Gram.decl T f [] i with
  | fuel => rw [HR.out, hr] at hf; cases hf
  | bad a er =>
    rw [hr] at hd1
    simp only [dPost] at hd1
    go_enter Tryz.func79, Tryz.ntmps79
    go_wp2_with (first | (go_at_call 122; refine hd1.mono ?_; rintro e w1 ⟨rfl, hg1⟩))
    refine ⟨rfl, ?_⟩
    rw [HR.out, hr]
    exact ⟨rfl, hg1⟩
  | ok vs0 j0 =>
  rw [hr] at hd1
  simp only [dPost] at hd1
  have HR1 : Hid (R = if Gram.sees T j0 [59] then Gram.decls T f vs0 (j0 + 1) else .ok vs0 j0) := by show _ = _; rw [HR.out, hr]; rfl
  clear HR hr
  go_enter Tryz.func79, Tryz.ntmps79
  go_wp2_with (first | (go_at_call 122; refine hd1.mono ?_; rintro e w1 ⟨v1, rfl, hD1⟩; refine Hid.out ?_))
  have HD1 := Lib.hid hD1
  clear hD1
  refine Lib.hid ?_
  go_wp2
  go_loopg [3] f (fun (f' : Nat) (s3 : Value) (wr : World) => ∃ (vs : List Gram.Var) (j : Nat), f' ≤ f ∧ Hid (Ds w wr b g cap rv T w.heap.size j d vs s3 ∧ R = if Gram.sees T j [59] then Gram.decls T f' vs (j + 1) else .ok vs j))
  case atStart => exact ⟨vs0, j0, Nat.le_refl _, Lib.hid ⟨HD1.out, HR1.out⟩⟩
  case round =>
    obtain ⟨vs, j, hff, HG⟩ := hrel
    obtain ⟨hD, hL⟩ := HG.out
    clear HG
    have hP := hD.pa
    have HD := Lib.hid hD
    have HL := Lib.hid hL
    clear hD hL
    rcases Bool.eq_false_or_eq_true (Gram.sees T j [59]) with hs | hs
    case inr =>
      have hA := gaccept_no b g cap rv T j d ⟨#[59]⟩ wr hP hs
      go_wp2_with (first | (go_at_call 123; refine hA.mono ?_; rintro e w2 ⟨rfl, hg2⟩))
      go_ret
      rw [HL.out, if_neg (by rw [hs]; decide)]
      have hE := HD.out.kept0 hg2
      exact ⟨_, rfl, hE.gro, hE.pa, hE.gr⟩
    have hA := gaccept_yes b g cap rv T j d ⟨#[59]⟩ wr hP hs (hP.nextSees hs (by decide))
    go_wp2_with (first | (go_at_call 123; refine hA.mono ?_; rintro e w2 ⟨rfl, hP2, hg2⟩; refine Hid.out ?_))
    have hD2 := HD.out.on hg2 hP2
    have hL2 : R = Gram.decls T gk vs (j + 1) := by rw [HL.out, if_pos hs]
    rcases Nat.eq_zero_or_pos gk with hz0 | hz0
    · rw [hz0] at hL2; rw [hL2] at hf; unfold Gram.decls at hf; cases hf
    obtain ⟨f', hfe⟩ : ∃ f', gk = f' + 1 := ⟨gk - 1, by omega⟩
    subst hfe
    unfold Gram.decls at hL2
    have hd2 := gdecl_any b g cap rv T d f' w w2 w.heap.size (j + 1) vs u3 hD2 (by rw [hL2] at hf; exact Gram.PR.bind_fuel hf)
    have HL2 := Lib.hid hL2
    clear hL2 hD2 HL
    cases hr2 : Gram.decl T f' vs (j + 1) with
    | fuel => rw [HL2.out, hr2] at hf; cases hf
    | bad a er =>
      rw [hr2] at hd2
      simp only [dPost] at hd2
      refine Lib.hid ?_
      go_wp2_with (first | (go_at_call 122; refine hd2.mono ?_; rintro e w3 ⟨rfl, hg3⟩))
      refine ⟨rfl, ?_⟩
      rw [HL2.out, hr2]
      exact ⟨rfl, hg3⟩
    | ok vs2 j2 =>
      rw [hr2] at hd2
      simp only [dPost] at hd2
      have HL3 : Hid (R = if Gram.sees T j2 [59] then Gram.decls T f' vs2 (j2 + 1) else .ok vs2 j2) := by show _ = _; rw [HL2.out, hr2]; rfl
      clear HL2 hr2
      refine Lib.hid ?_
      go_wp2_with (first | (go_at_call 122; refine hd2.mono ?_; rintro e w3 ⟨v3, rfl, hD3⟩))
      go_roundg f'
      case measure => exact Nat.lt_succ_self _
      case rel => exact ⟨vs2, j2, by omega, Lib.hid ⟨hD3, HL3.out⟩⟩

/-- the end of local -/
def lend (T : List Lex.Tk) (vs : List Gram.Var) (k : Nat) : Gram.PR (List Gram.Var) := (Gram.expect T k [59]).bind fun _ m => .ok vs m

set_option maxHeartbeats 6400000 in
set_option maxRecDepth 20000 in
theorem glocal_any (f : Nat) (w0 w : World) (B i : Nat) (vars : List Gram.Var) (v : Value) (h : Ds w0 w b g cap rv T B i d vars v) (hf : (Gram.local_ T f vars i).isFuel = false) :
    Calls Tryz.prog 124 #[.pointer (some ⟨b, 0, none⟩), v] w fun e w' => dPost w0 b g cap rv T B d (Gram.local_ T f vars i) e w' := by
  obtain ⟨R, hR⟩ : ∃ R, R = Gram.local_ T f vars i := ⟨_, rfl⟩
  rw [← hR] at hf ⊢
  unfold Gram.local_ at hR
  have hd1 := gdecl_any b g cap rv T d f w0 w B i vars v h (by rw [hR] at hf; exact Gram.PR.bind_fuel hf)
  have HR := Lib.hid hR
  clear hR
  have hmf := makeFunc_run
  have hlen0 : ∀ (ty : TypeId) (wx : World), (Builtin.len_ #[42] ty #[v]).run Tryz.prog wx = .ok (.int .i64 (vars.length : Int)) wx := by
    obtain ⟨xs, ho, _⟩ := h.gro
    rw [List.length_map] at ho
    exact fun ty wx => len_Var ho ty wx
  clear h
  cases hr : Gram.decl T f vars i with
  | fuel => rw [HR.out, hr] at hf; cases hf
  | bad a er =>
    rw [hr] at hd1
    simp only [dPost] at hd1
    go_enter Tryz.func124, Tryz.ntmps124
    go_wp2_with (first | (go_at_call 122; refine hd1.mono ?_; rintro e w1 ⟨rfl, hg1⟩))
    refine ⟨rfl, ?_⟩
    rw [HR.out, hr]
    exact ⟨rfl, hg1⟩
  | ok vs j =>
  obtain ⟨nw, hnw⟩ := Gram.decl_more hr
  rw [hr] at hd1
  subst hnw
  simp only [dPost] at hd1
  have HR1 : Hid (R = (if Gram.sees T j [119, 104, 101, 110] then (Gram.edges T f [] (j + 1)).bind fun c k => .ok (vars ++ nw.map (clk c)) k else .ok (vars ++ nw) j).bind fun vs k => lend T vs k) := by
    show _ = _
    rw [HR.out, hr, Gram.PR.ok_bind, List.take_left, List.drop_left]
    rfl
  clear HR hr
  go_enter Tryz.func124, Tryz.ntmps124
  go_wp2_with (first | (go_at_call 122; refine hd1.mono ?_; rintro e w1 ⟨v1, rfl, hD1⟩; refine Hid.out ?_))
  have hP1 := hD1.pa
  have hlen1 : ∀ (ty : TypeId) (wx : World), (Builtin.len_ #[42] ty #[v1]).run Tryz.prog wx = .ok (.int .i64 ((vars.length + nw.length : Nat) : Int)) wx := by
    obtain ⟨xs, ho, _⟩ := hD1.gro
    rw [List.length_map, List.length_append] at ho
    exact fun ty wx => len_Var ho ty wx
  have HD1 := Lib.hid hD1
  clear hD1 hd1 hlen0
  rcases Bool.eq_false_or_eq_true (Gram.sees T j [119, 104, 101, 110]) with hs | hs
  case inr =>
    have hA := gaccept_no b g cap rv T j d ⟨#[119, 104, 101, 110]⟩ w1 hP1 hs
    have HR2 : Hid (R = (Gram.expect T j [59]).bind fun _ m => .ok (vars ++ nw) m) := by show _ = _; rw [HR1.out, if_neg (by rw [hs]; decide)]; rfl
    clear HR1
    refine Lib.hid ?_
    go_wp2_with (first | (go_at_call 123; refine hA.mono ?_; rintro e w2 ⟨rfl, hg2⟩; refine Hid.out ?_))
    have hD2 := HD1.out.kept0 hg2
    have hP2 := hD2.pa
    have HD2 := Lib.hid hD2
    clear hD2
    rcases Bool.eq_false_or_eq_true (Gram.sees T j [59]) with e1 | e1
    case inr =>
      have hN := gexpect_no b g cap rv T j d ⟨#[59]⟩ _ hP2 e1
      refine Lib.hid ?_
      go_wp2_with (first | (go_at_call 77; refine hN.mono ?_; rintro e w9 ⟨rfl, hgz⟩))
      refine ⟨rfl, ?_⟩
      rw [HR2.out, Gram.expect_no e1]
      exact ⟨rfl, HD2.out.gr.trans hgz⟩
    have hN := gexpect_yes b g cap rv T j d ⟨#[59]⟩ _ hP2 e1 (hP2.nextSees e1 (by decide))
    refine Lib.hid ?_
    go_wp2_with (first | (go_at_call 77; refine hN.mono ?_; rintro e w3 ⟨rfl, hP3, hg3⟩))
    go_ret
    rw [HR2.out, Gram.expect_yes e1]
    exact ⟨_, rfl, HD2.out.on hg3 hP3⟩
  have hA := gaccept_yes b g cap rv T j d ⟨#[119, 104, 101, 110]⟩ w1 hP1 hs (hP1.nextSees hs (by decide))
  have HR2 : Hid (R = (Gram.edges T f [] (j + 1)).bind fun c k => lend T (vars ++ nw.map (clk c)) k) := by show _ = _; rw [HR1.out, if_pos hs, Gram.PR.bind_assoc]; rfl
  clear HR1
  refine Lib.hid ?_
  go_wp2_with (first | (go_at_call 123; refine hA.mono ?_; rintro e w2 ⟨rfl, hP2, hg2⟩; refine Hid.out ?_))
  have hD2 := HD1.out.on hg2 hP2
  have HD2 := Lib.hid hD2
  clear hD2 HD1
  have hEf : (Gram.edges T f [] (j + 1)).isFuel = false := by rw [HR2.out] at hf; exact Gram.PR.bind_fuel hf
  have hX := gparted_edges b g cap rv T d f (j + 1) w2 hP2 hEf
  cases hr2 : Gram.edges T f [] (j + 1) with
  | fuel => rw [hr2] at hEf; cases hEf
  | bad a er =>
    rw [hr2] at hX
    simp only [lPost] at hX
    refine Lib.hid ?_
    go_wp2_with (first | (go_at_call 148; refine hX.mono ?_; rintro e w9 ⟨rfl, hgz⟩))
    refine ⟨rfl, ?_⟩
    rw [HR2.out, hr2]
    exact ⟨rfl, HD2.out.gr.trans hgz⟩
  | ok c k =>
  have hc16 := Gram.edges_len T f [] (j + 1) c k hr2
  rw [hr2] at hX
  simp only [lPost] at hX
  have HR3 : Hid (R = lend T (vars ++ nw.map (clk c)) k) := by show _ = _; rw [HR2.out, hr2]; rfl
  clear HR2 hr2 hEf
  refine Lib.hid ?_
  go_wp2_with (first | (go_at_call 148; refine hX.mono ?_; rintro e w3 ⟨v3, rfl, hk3, hP3, hg3⟩; refine Hid.out ?_))
  have hD3 := HD2.out.on hg3 hP3
  have hvlt := HD2.out.gro.lt
  have hy8 : ∀ k, v1.ownBlock = some k → k < w2.heap.size := fun k e => hvlt k (by rw [e]; simp)
  have HD3 := Lib.hid hD3
  have HK3 := Lib.hid hk3
  clear hD3 hvlt hk3 HD2 hX hA
  obtain ⟨N, hNe⟩ : ∃ N, N = vars.length + nw.length := ⟨_, rfl⟩
  rw [← hNe] at hlen1
  have HNe := Lib.hid hNe
  clear hNe
  refine Lib.hid ?_
  go_wp2
  go_loopg [7] nw.length (fun (gz : Nat) (s7 : Value) (wq : World) => ∃ (M m : Nat), Hid (M = vars.length + m) ∧ m + gz = nw.length ∧ s7 = .int .i64 (M : Int) ∧ Hid (GrowD wq w2.heap.size 150 2 (c.map edgeD) v3 ∧ Ds w0 wq b g cap rv T B k d (vars ++ (nw.take m).map (clk c) ++ nw.drop m) v1 ∧ w2.heap.size ≤ wq.heap.size))
  case atStart => exact ⟨vars.length, 0, Lib.hid rfl, by omega, rfl, Lib.hid ⟨HK3.out, by simpa using HD3.out, hg3.size⟩⟩
  case round =>
    obtain ⟨M, m, HM9, hm, rfl, HG⟩ := hrel
    obtain ⟨hK, hD, hwr⟩ := HG.out
    clear HG
    have hN2 := HNe.out
    have hM := HM9.out
    rcases Nat.eq_zero_or_pos gk with hz1 | hz1
    · have hnl : ¬ (M : Int) < (N : Int) := by omega
      have hme : m = nw.length := by omega
      have HD5 : Hid (Ds w0 wr b g cap rv T B k d (vars ++ nw.map (clk c)) v1) := by
        refine Lib.hid ?_
        rw [hme, List.take_length, List.drop_length] at hD
        simpa using hD
      clear hD hK HD3 hN2 hM hme hm
      have hP5 := HD5.out.pa
      rcases Bool.eq_false_or_eq_true (Gram.sees T k [59]) with e1 | e1
      case inr =>
        have hN := gexpect_no b g cap rv T k d ⟨#[59]⟩ _ hP5 e1
        go_wp2_with (first | (go_at_call 77; refine hN.mono ?_; rintro e w9 ⟨rfl, hgz⟩))
        refine ⟨rfl, ?_⟩
        rw [HR3.out]
        unfold lend
        rw [Gram.expect_no e1]
        exact ⟨rfl, HD5.out.gr.trans hgz⟩
      have hN := gexpect_yes b g cap rv T k d ⟨#[59]⟩ _ hP5 e1 (hP5.nextSees e1 (by decide))
      go_wp2_with (first | (go_at_call 77; refine hN.mono ?_; rintro e w9 ⟨rfl, hP9, hgz⟩))
      go_ret
      rw [HR3.out]
      unfold lend
      rw [Gram.expect_yes e1]
      exact ⟨_, rfl, HD5.out.on hgz hP9⟩
    · have hlt : (M : Int) < (N : Int) := by omega
      have hnn : ¬ (M : Int) < 0 := by omega
      have hml : m < nw.length := by omega
      obtain ⟨f9, hfe9⟩ : ∃ f9, gk = f9 + 1 := ⟨gk - 1, by omega⟩
      have hdr : nw.drop m = nw[m] :: nw.drop (m + 1) := List.drop_eq_getElem_cons hml
      obtain ⟨a, ha⟩ : ∃ a, a = nw[m] := ⟨_, rfl⟩
      rw [← ha] at hdr
      rw [hdr] at hD
      have hCl := gclone_edges c v3 w2.heap.size wr hc16 hK.rep
      obtain ⟨xs4, ho4, _⟩ := hD.gro
      have hl4 : (vars ++ List.map (clk c) (List.take m nw) ++ a :: List.drop (m + 1) nw).length = N := by
        simp only [List.length_append, List.length_map, List.length_cons, List.length_take, List.length_drop]; omega
      rw [List.length_map, hl4] at ho4
      rcases ho4.2 with ⟨e4, h40⟩ | ⟨gg, cc, cur, e4, hb4, _, hncc, hccm, _⟩
      · omega
      subst e4
      have hMb : (M : Int) + 1 < 9223372036854775808 := by unfold maxLen at hccm; omega
      have hgg : gg < w2.heap.size := hy8 gg rfl
      have hA : (vars ++ List.map (clk c) (List.take m nw)).length = M := by
        simp only [List.length_append, List.length_map, List.length_take]; omega
      have HD := Lib.hid hD
      have HK := Lib.hid hK
      have HX := Lib.hid (And.intro hl4 (And.intro hA (And.intro hdr ha)))
      clear hD hK hl4 hA hdr ha hN2 hM ho4
      go_wp2_with (first | (go_at_call 151; refine hCl.mono ?_; rintro e w5 ⟨v5, rfl, hk5, hg5⟩; refine Hid.out ?_))
      obtain ⟨ka, kn, kc, rfl⟩ := hk5.form
      obtain ⟨hl4, hA, hdr, ha⟩ := HX.out
      have hD5 := HD.out.kept0 hg5
      obtain ⟨q1, hq1⟩ := hD5.gro.there (M * 5 + 3) (by rw [List.length_map, hl4]; have hN2 := HNe.out; have hM := HM9.out; omega)
      have hfz := hD5.gro.free
      have hs5 := hg5.size
      have hre : RepC w5 B [gg] (.l 150 2 (c.map edgeD)) (.slice ka kn kc) := RepC.mono (HD.out.Bs) (RepC.toX [gg] (fun k e => .inr (by simp at e; omega)) hk5.rep)
      have hD6 := hD5.put 3 (by omega) (x' := clk c a) (d' := .l 150 2 (c.map edgeD)) (u := .slice ka kn kc) rfl hre (M * 5 + 3) (by rw [hA])
      have HD6 : Hid (Ds w0 (w5.setCell ⟨gg, M * 5 + 3, none⟩ (.slice ka kn kc)) b g cap rv T B k d (vars ++ (nw.take (m + 1)).map (clk c) ++ nw.drop (m + 1)) (.slice (some ⟨gg, 0, none⟩) N cc)) := by
        refine Lib.hid ?_
        have e : vars ++ (nw.take (m + 1)).map (clk c) ++ nw.drop (m + 1) = vars ++ List.map (clk c) (List.take m nw) ++ clk c a :: List.drop (m + 1) nw := by
          rw [List.take_add_one, List.getElem?_eq_getElem hml, ← ha]
          simp
        rw [e]
        exact hD6
      have HK6 : Hid (GrowD (w5.setCell ⟨gg, M * 5 + 3, none⟩ (.slice ka kn kc)) w2.heap.size 150 2 (c.map edgeD) v3) := Lib.hid ((HK.out.kept0 hg5).keptB (grown_set w5 ⟨gg, M * 5 + 3, none⟩ _) hgg)
      clear hD5 hD6 hl4 hA hdr ha hre hk5
      refine Lib.hid ?_
      go_wp2
      subst hfe9
      go_roundg f9
      case measure => exact Nat.lt_succ_self _
      case rel => exact ⟨M + 1, m + 1, Lib.hid (by rw [HM9.out]; omega), by omega, by simp, Lib.hid ⟨HK6.out, HD6.out, by simp; omega⟩⟩
end

end Go.Proofs.YtachmiajldeakaaGreatDoor

/- gram's locals. -/
namespace Go.Proofs.YtachmiajldeakaaGreatDoor
open Go.RowKit Go.Maps Go.WideMaps

section
variable (b g cap : Nat) (rv : Value) (T : List Lex.Tk) (d : Nat)

set_option maxHeartbeats 3200000 in
set_option maxRecDepth 20000 in
theorem glocals_any (f i : Nat) (w : World) (h : Pa w b g cap rv T i d) (hf : (Gram.locals T f i).isFuel = false) :
    Calls Tryz.prog 80 #[.pointer (some ⟨b, 0, none⟩)] w fun e w' => lPost varD 139 5 w b g cap rv T d (Gram.locals T f i) e w' := by
  have hbw := h.bl
  obtain ⟨R, hR⟩ : ∃ R, R = Gram.locals T f i := ⟨_, rfl⟩
  rw [← hR] at hf ⊢
  unfold Gram.locals at hR
  have HR := Lib.hid hR
  clear hR
  rcases Bool.eq_false_or_eq_true (Gram.sees T i [118, 97, 114]) with hs | hs
  case inr =>
    have hA := gaccept_no b g cap rv T i d ⟨#[118, 97, 114]⟩ w h hs
    go_enter Tryz.func80, Tryz.ntmps80
    go_wp2_with (first | (go_at_call 123; refine hA.mono ?_; rintro e w1 ⟨rfl, hg1⟩))
    go_ret
    rw [HR.out, if_neg (by rw [hs]; decide)]
    exact ⟨_, rfl, GrowD.nil _ _ _ _, h.kept hg1, grown_some hg1 b⟩
  have hA := gaccept_yes b g cap rv T i d ⟨#[118, 97, 114]⟩ w h hs (h.nextSees hs (by decide))
  have HRa : Hid (R = Gram.localsL T f [] (i + 1)) := by show _ = _; rw [HR.out, if_pos hs]
  clear HR
  cases f with
  | zero => rw [HRa.out] at hf; unfold Gram.localsL at hf; cases hf
  | succ f =>
  have HRb : Hid (R = (Gram.local_ T f [] (i + 1)).bind fun vs j => if Gram.isName T j then Gram.localsL T f vs j else .ok vs j) := by show _ = _; rw [HRa.out]; conv => lhs; unfold Gram.localsL
  clear HRa h
  go_enter Tryz.func80, Tryz.ntmps80
  go_wp2_with (first | (go_at_call 123; refine hA.mono ?_; rintro e w1 ⟨rfl, hP1, hg1⟩; refine Hid.out ?_))
  have hd1 := glocal_any b g cap rv T d f w1 w1 w1.heap.size (i + 1) [] (.slice none 0 0) (Ds.start hP1) (by rw [HRb.out] at hf; exact Gram.PR.bind_fuel hf)
  cases hr : Gram.local_ T f [] (i + 1) with
  | fuel => rw [HRb.out, hr] at hf; cases hf
  | bad a er =>
    rw [hr] at hd1
    simp only [dPost] at hd1
    refine Lib.hid ?_
    go_wp2_with (first | (go_at_call 124; refine hd1.mono ?_; rintro e w2 ⟨rfl, hg2⟩))
    refine ⟨rfl, ?_⟩
    rw [HRb.out, hr]
    exact ⟨rfl, hg1.trans hg2⟩
  | ok vs0 j0 =>
  rw [hr] at hd1
  simp only [dPost] at hd1
  have HR1 : Hid (R = if Gram.isName T j0 then Gram.localsL T f vs0 j0 else .ok vs0 j0) := by show _ = _; rw [HRb.out, hr]; rfl
  clear HRb hr
  refine Lib.hid ?_
  go_wp2_with (first | (go_at_call 124; refine hd1.mono ?_; rintro e w2 ⟨v1, rfl, hD1⟩; refine Hid.out ?_))
  have HD1 := Lib.hid hD1
  clear hD1
  refine Lib.hid ?_
  go_wp2
  go_loopg [3] f (fun (f' : Nat) (s3 : Value) (wr : World) => ∃ (vs : List Gram.Var) (j : Nat), f' ≤ f ∧ Hid (Ds w1 wr b g cap rv T w1.heap.size j d vs s3 ∧ R = if Gram.isName T j then Gram.localsL T f' vs j else .ok vs j))
  case atStart => exact ⟨vs0, j0, Nat.le_refl _, Lib.hid ⟨HD1.out, HR1.out⟩⟩
  case round =>
    obtain ⟨vs, j, hff, HG⟩ := hrel
    obtain ⟨hD, hL⟩ := HG.out
    clear HG
    have hP := hD.pa
    have HD := Lib.hid hD
    have HL := Lib.hid hL
    clear hD hL
    have hN := gname_sees b g cap rv T j d wr hP
    rcases Bool.eq_false_or_eq_true (Gram.isName T j) with hs2 | hs2
    case inr =>
      rw [hs2] at hN
      go_wp2_with (first | (go_at_call 121; refine hN.mono ?_; rintro e w3 ⟨rfl, hg3⟩))
      go_ret
      rw [HL.out, if_neg (by rw [hs2]; decide)]
      have hE := HD.out.kept0 hg3
      exact ⟨_, rfl, hE.gro.mono hg1.size, hE.pa, hg1.trans hE.gr⟩
    rw [hs2] at hN
    go_wp2_with (first | (go_at_call 121; refine hN.mono ?_; rintro e w3 ⟨rfl, hg3⟩; refine Hid.out ?_))
    have hD2 := HD.out.kept0 hg3
    have hL2 : R = Gram.localsL T gk vs j := by rw [HL.out, if_pos hs2]
    rcases Nat.eq_zero_or_pos gk with hz0 | hz0
    · rw [hz0] at hL2; rw [hL2] at hf; unfold Gram.localsL at hf; cases hf
    obtain ⟨f', hfe⟩ : ∃ f', gk = f' + 1 := ⟨gk - 1, by omega⟩
    subst hfe
    unfold Gram.localsL at hL2
    have hd2 := glocal_any b g cap rv T d f' w1 w3 w1.heap.size j vs u3 hD2 (by rw [hL2] at hf; exact Gram.PR.bind_fuel hf)
    have HL2 := Lib.hid hL2
    clear hL2 hD2 HL
    cases hr2 : Gram.local_ T f' vs j with
    | fuel => rw [HL2.out, hr2] at hf; cases hf
    | bad a er =>
      rw [hr2] at hd2
      simp only [dPost] at hd2
      refine Lib.hid ?_
      go_wp2_with (first | (go_at_call 124; refine hd2.mono ?_; rintro e w4 ⟨rfl, hg4⟩))
      refine ⟨rfl, ?_⟩
      rw [HL2.out, hr2]
      exact ⟨rfl, hg1.trans hg4⟩
    | ok vs2 j2 =>
      rw [hr2] at hd2
      simp only [dPost] at hd2
      have HL3 : Hid (R = if Gram.isName T j2 then Gram.localsL T f' vs2 j2 else .ok vs2 j2) := by show _ = _; rw [HL2.out, hr2]; rfl
      clear HL2 hr2
      refine Lib.hid ?_
      go_wp2_with (first | (go_at_call 124; refine hd2.mono ?_; rintro e w4 ⟨v3, rfl, hD3⟩))
      go_roundg f'
      case measure => exact Nat.lt_succ_self _
      case rel => exact ⟨vs2, j2, by omega, Lib.hid ⟨hD3, HL3.out⟩⟩
end

end Go.Proofs.YtachmiajldeakaaGreatDoor

/- gram's automaton, within and item (made by mkseq.py). -/
namespace Go.Proofs.YtachmiajldeakaaGreatDoor
open Go.RowKit Go.Maps Go.WideMaps

section
variable (b g cap : Nat) (rv : Value) (T : List Lex.Tk) (d : Nat)

set_option maxHeartbeats 6400000 in
set_option maxRecDepth 20000 in
theorem gautomaton_any (f i : Nat) (hC : ∀ f', f' < f → ∀ (i : Nat) (w : World), Pa w b g cap rv T i d → (Gram.sees T i [115, 116, 97, 116, 101]) = true → (Gram.state T f' d i).isFuel = false → Calls Tryz.prog 186 #[.pointer (some ⟨b, 0, none⟩)] w fun e w' => rPost stateD w b g cap rv T d (Gram.state T f' d i) e w') (w : World) (h : Pa w b g cap rv T i d) (ha : Gram.sees T i [97, 117, 116, 111, 109, 97, 116, 111, 110] = true) (hf : (Gram.need T (i + 1) (Gram.sees T (i + 1) [115, 116, 97, 116, 101]) ((Gram.states T f d [] (i + 1)).bind fun ss j => (Gram.expect T j [101, 110, 100]).bind fun _ k => Gram.PR.ok (Gram.Item.mk [] Gram.zeroExp ss (Gram.tk T i).at_) k)).isFuel = false) :
    Calls Tryz.prog 154 #[.pointer (some ⟨b, 0, none⟩)] w fun e w' => rPost itemD w b g cap rv T d (Gram.need T (i + 1) (Gram.sees T (i + 1) [115, 116, 97, 116, 101]) ((Gram.states T f d [] (i + 1)).bind fun ss j => (Gram.expect T j [101, 110, 100]).bind fun _ k => Gram.PR.ok (Gram.Item.mk [] Gram.zeroExp ss (Gram.tk T i).at_) k)) e w' := by
  have hbw := h.bl
  have hP0 := h.alloc itm0
  have hX := gexpect_yes b g cap rv T i d ⟨#[97, 117, 116, 111, 109, 97, 116, 111, 110]⟩ _ hP0 ha (hP0.nextSees ha (by decide))
  generalize Gram.tk T i = x at hX hf ⊢
  obtain ⟨R, hR⟩ : ∃ R, R = Gram.need T (i + 1) (Gram.sees T (i + 1) [115, 116, 97, 116, 101]) ((Gram.states T f d [] (i + 1)).bind fun ss j => (Gram.expect T j [101, 110, 100]).bind fun _ k => Gram.PR.ok (Gram.Item.mk [] Gram.zeroExp ss x.at_) k) := ⟨_, rfl⟩
  rw [← hR] at hf ⊢
  have hR2 : R = (Gram.need T (i + 1) (Gram.sees T (i + 1) [115, 116, 97, 116, 101]) (Gram.states T f d [] (i + 1))).bind fun ss j => (Gram.expect T j [101, 110, 100]).bind fun _ k => Gram.PR.ok (Gram.Item.mk [] Gram.zeroExp ss x.at_) k := by
    rw [hR]
    unfold Gram.need Gram.fail
    split <;> rfl
  have HT1 := Lib.hid hR2
  clear hR hR2
  have hfa := fldAt x
  have hmf := makeFunc_run
  have HH := Lib.hid h
  clear h
  go_enter Tryz.func154, Tryz.ntmps154
  go_wp2_with (first | (go_at_call 77; refine hX.mono ?_; rintro e w1 ⟨rfl, hP1, hg1⟩; refine Hid.out ?_))
  have hs1 := hg1.size
  rw [World.size_alloc] at hs1
  have hS1 : Ss (w.alloc itm0) (w1.alloc (.cells #[.slice none 0 0, .int .i64 0, .int .i64 0, .string ⟨#[]⟩, .int .i64 0, .int .i64 0, .int .i64 0, .int .i64 0, .slice none 0 0, .int .i64 0, .slice none 0 0, .int .i64 (x.at_ : Int)] 41)) b g cap rv T w1.heap.size (i + 1) d 41 [.l 9 1 [], .c (.int .i64 0), .c (.int .i64 0), .c (.string ⟨#[]⟩), .c (.int .i64 0), .c (.int .i64 0), .c (.int .i64 0), .c (.int .i64 0), .l 28 9 [], .c (.int .i64 0), .l 182 6 [], .c (.int .i64 (x.at_ : Int))] [.slice none 0 0, .int .i64 0, .int .i64 0, .string ⟨#[]⟩, .int .i64 0, .int .i64 0, .int .i64 0, .int .i64 0, .slice none 0 0, .int .i64 0, .slice none 0 0, .int .i64 (x.at_ : Int)] :=
    Ss.make ⟨i, hP0⟩ (hP1.alloc _) (galloc hg1 _) (by simp; omega) (heap_alloc_new w1 _) (.cons (RepC.nil _ _ _ _ _) (.cons (.c _) (.cons (.c _) (.cons (.c _) (.cons (.c _) (.cons (.c _) (.cons (.c _) (.cons (.c _) (.cons (RepC.nil _ _ _ _ _) (.cons (.c _) (.cons (RepC.nil _ _ _ _ _) (.cons (.c _) .nil))))))))))))
  clear hX
  have hLf1 : (Gram.need T (i + 1) (Gram.sees T (i + 1) [115, 116, 97, 116, 101]) (Gram.states T f d [] (i + 1))).isFuel = false := by rw [HT1.out] at hf; exact Gram.PR.bind_fuel hf
  have hL1 := gsome_State b g cap rv T d f hC (i + 1) _ hS1.pa hLf1
  have HS1 := Lib.hid hS1
  clear hS1
  cases hr1 : Gram.need T (i + 1) (Gram.sees T (i + 1) [115, 116, 97, 116, 101]) (Gram.states T f d [] (i + 1)) with
  | fuel => rw [hr1] at hLf1; cases hLf1
  | bad a er =>
    rw [hr1] at hL1
    simp only [lPost] at hL1
    refine Lib.hid ?_
    go_wp2_with (first | (go_at_call 184; refine hL1.mono ?_; rintro e w9 ⟨rfl, hgz⟩))
    refine ⟨rfl, ?_⟩
    rw [HT1.out, hr1]
    exact ⟨rfl, (grown_some (World.grownBy_alloc w itm0 none) b).trans (HS1.out.gr.trans hgz)⟩
  | ok l1 j1 =>
  rw [hr1] at hL1
  simp only [lPost] at hL1
  have HT2 : Hid (R = (Gram.expect T j1 [101, 110, 100]).bind fun _ k => Gram.PR.ok (Gram.Item.mk [] Gram.zeroExp l1 x.at_) k) := by show _ = _; rw [HT1.out, hr1]; rfl
  clear HT1 hr1 hLf1
  refine Lib.hid ?_
  go_wp2_with (first | (go_at_call 184; refine hL1.mono ?_; rintro e x1 ⟨v1, rfl, hk1, hP1, hg1⟩; obtain ⟨pa1, pn1, pc1, rfl⟩ := hk1.form; refine Hid.out ?_))
  have hSa := HS1.out.on hg1 hP1
  have hql1 := HS1.out.ql
  obtain ⟨z0, z1, z2, z3, z4, z5, z6, z7, z8, z9, z10, z11, zf⟩ := cells_12 (show x1.heap[w1.heap.size]? = some (.cells #[.slice none 0 0, .int .i64 0, .int .i64 0, .string ⟨#[]⟩, .int .i64 0, .int .i64 0, .int .i64 0, .int .i64 0, .slice none 0 0, .int .i64 0, .slice none 0 0, .int .i64 (x.at_ : Int)] 41 (0, 0)) from hSa.row)
  have hS2 : Ss (w.alloc itm0) (x1.setCell ⟨w1.heap.size, 10, none⟩ (.slice pa1 pn1 pc1)) b g cap rv T w1.heap.size j1 d 41 [.l 9 1 [], .c (.int .i64 0), .c (.int .i64 0), .c (.string ⟨#[]⟩), .c (.int .i64 0), .c (.int .i64 0), .c (.int .i64 0), .c (.int .i64 0), .l 28 9 [], .c (.int .i64 0), .l 182 6 (l1.map stateD), .c (.int .i64 (x.at_ : Int))] [.slice none 0 0, .int .i64 0, .int .i64 0, .string ⟨#[]⟩, .int .i64 0, .int .i64 0, .int .i64 0, .int .i64 0, .slice none 0 0, .int .i64 0, .slice pa1 pn1 pc1, .int .i64 (x.at_ : Int)] := hSa.set 10 (hk1.mono (Nat.succ_le_of_lt hql1)).rep
  clear hSa hL1 hk1 hP1 hg1 HS1
  rcases Bool.eq_false_or_eq_true (Gram.sees T j1 [101, 110, 100]) with e2 | e2
  case inr =>
    have hN := gexpect_no b g cap rv T j1 d ⟨#[101, 110, 100]⟩ _ hS2.pa e2
    have hg9 := hS2.gr
    refine Lib.hid ?_
    go_wp2_with (first | (go_at_call 77; refine hN.mono ?_; rintro e w9 ⟨rfl, hgz⟩))
    refine ⟨rfl, ?_⟩
    rw [HT2.out, Gram.expect_no e2]
    exact ⟨rfl, (grown_some (World.grownBy_alloc w itm0 none) b).trans (hg9.trans hgz)⟩
  have hN2 := gexpect_yes b g cap rv T j1 d ⟨#[101, 110, 100]⟩ _ hS2.pa e2 (hS2.pa.nextSees e2 (by decide))
  have HS2 := Lib.hid hS2
  clear hS2
  refine Lib.hid ?_
  go_wp2_with (first | (go_at_call 77; refine hN2.mono ?_; rintro e x2 ⟨rfl, hP2, hg2⟩; refine Hid.out ?_))
  have hS3 := HS2.out.on hg2 hP2
  have HT3 : Hid (R = Gram.PR.ok (Gram.Item.mk [] Gram.zeroExp l1 x.at_) (j1 + 1)) := by show _ = _; rw [HT2.out, Gram.expect_yes e2]; rfl
  clear HT2 hN2 HS2 hP2 hg2
  clear z0 z1 z2 z3 z4 z5 z6 z7 z8 z9 z10 z11 zf
  have hgA := hS3.gr
  obtain ⟨y0, y1, y2, y3, y4, y5, y6, y7, y8, y9, y10, y11, yf⟩ := cells_12 (show x2.heap[w1.heap.size]? = some (.cells #[.slice none 0 0, .int .i64 0, .int .i64 0, .string ⟨#[]⟩, .int .i64 0, .int .i64 0, .int .i64 0, .int .i64 0, .slice none 0 0, .int .i64 0, .slice pa1 pn1 pc1, .int .i64 (x.at_ : Int)] 41 (0, 0)) from hS3.row)
  have HSE := Lib.hid hS3
  clear hS3
  refine Lib.hid ?_
  go_wp2_with (with_reducible refine hold_st 2 ?_)
  refine Lib.hid ?_
  refine wpList_store_gen rfl _ _ _ rfl w.heap.size _ rfl rfl 41 _ ((hgA.block w.heap.size (by simp) (by simp; omega)).trans (heap_alloc_new w itm0)) (by kernel_rfl) rfl (by simp [Value.oneCell']) ?_
  intro w7 hh7 hg7
  go_wp2
  (try simp only [Exit.inBlock, Exit.then])
  refine bodyPost_ret (results_cell_row rfl _ _ w.heap.size 41 _ (0, 0) _ rfl hh7 Tryz.underlying41 rfl (by kernel_rfl)) rfl ?_
  have hG : w.grownBy w7 (some b) := ((grown_some (World.grownBy_alloc w itm0 none) b).trans hgA).andThen hg7 (fun j e => .inl (by cases e; exact Nat.le_refl _))
  obtain ⟨hkk, hss⟩ := HSE.out.ends hg7 (by simp) (by omega)
  rw [HT3.out]
  refine ⟨_, rfl, ?_, HH.out.to hG hss HSE.out.pa.lt, hG⟩
  simpa only [itemD, statesD_map, expD, expsD, Gram.zeroExp, List.map_nil, List.cons_append, List.nil_append] using hkk

set_option maxHeartbeats 6400000 in
set_option maxRecDepth 20000 in
theorem gwithinI_no (v : Value) (i : Nat) (w : World) (h : Pa w b g cap rv T i d) (hd : 40 ≤ d) :
    Calls Tryz.prog 153 #[.pointer (some ⟨b, 0, none⟩), v] w fun e w' => gBad w b ((Gram.tk T i).at_ : Int) 2 e w' := by
  have p2 := (h.alloc itm0).st.c2
  have hr := groom_no b g cap rv T i d (d : Int) 40 (by omega) _ (h.alloc itm0)
  unfold itm0 at p2
  have HH := Lib.hid h
  clear h
  go_enter Tryz.func153, Tryz.ntmps153
  go_wp2_with (go_at_call 75; refine hr.mono ?_; rintro e w1 ⟨rfl, hg1⟩)
  exact ⟨rfl, rfl, (grown_some (World.grownBy_alloc w itm0 none) b).trans hg1⟩

set_option maxHeartbeats 6400000 in
set_option maxRecDepth 20000 in
theorem gwithinI_yes (n : Nat) (hent : ∀ (args : Array Value) (wx : World), (callFunc n args).run Tryz.prog wx = .ok (.enter n args) wx) (i : Nat) (R : Gram.PR Gram.Item) (hf : R.isFuel = false) (w : World) (h : Pa w b g cap rv T i d) (hd : d < 40)
    (hc : ∀ wx, Pa wx b g cap rv T i (d + 1) → Calls Tryz.prog n #[.pointer (some ⟨b, 0, none⟩)] wx fun e w' => rPost itemD wx b g cap rv T (d + 1) R e w') :
    Calls Tryz.prog 153 #[.pointer (some ⟨b, 0, none⟩), .func (.func n) #[.pointer (some ⟨b, 0, none⟩)] #[]] w fun e w' => rPost itemD w b g cap rv T d R e w' := by
  have hbw := h.bl
  have hP0 := h.alloc itm0
  have p2 := hP0.st.c2
  have f2 := hP0.st.fr 2
  have hr := fun wx => groom_yes b (d : Int) 40 (by omega) wx
  have hP1 : Pa ((w.setCell ⟨b, 2, none⟩ (.int .i64 ((d : Int) + 1))).alloc itm0) b g cap rv T i (d + 1) := (h.to (grown_set _ _ _) (h.st.setDeep (d + 1)) h.lt).alloc itm0
  have hcc := hc _ hP1
  have hgS : w.grownBy ((w.setCell ⟨b, 2, none⟩ (.int .i64 ((d : Int) + 1))).alloc itm0) (some b) := galloc (grown_set _ _ _) _
  have hbS : ((w.setCell ⟨b, 2, none⟩ (.int .i64 ((d : Int) + 1))).alloc itm0).heap[w.heap.size]? = some itm0 := by
    have e := heap_alloc_new (w.setCell ⟨b, 2, none⟩ (.int .i64 ((d : Int) + 1))) itm0
    have e2 : (w.setCell ⟨b, 2, none⟩ (.int .i64 ((d : Int) + 1))).heap.size = w.heap.size := by simp
    rw [e2] at e
    exact e
  have hsS : ((w.setCell ⟨b, 2, none⟩ (.int .i64 ((d : Int) + 1))).alloc itm0).heap.size = w.heap.size + 1 := by simp
  have HBS := Lib.hid hbS
  have HSS := Lib.hid hsS
  clear hbS hsS
  have HH := Lib.hid h
  clear h hP0 hP1 hc
  cases R with
  | fuel => cases hf
  | bad a er =>
    simp only [rPost] at hcc
    clear hf
    unfold itm0 at p2 f2 hcc
    go_enter Tryz.func153, Tryz.ntmps153
    go_wp2_with (go_at_call 75; refine (hr _).mono ?_; rintro e w9 ⟨rfl, hw9⟩; rw [hw9]; clear hw9)
    refine hcc.mono ?_
    rintro e w1 ⟨rfl, hg1⟩
    exact ⟨rfl, rfl, hgS.trans hg1⟩
  | ok x j =>
    cases x with
    | mk ns ex ss at_ =>
    cases ex with
    | mk f1 s1 nm1 tk1 tl1 n1 m1 ks1 a1 =>
    simp only [rPost] at hcc
    have hc2 : Calls Tryz.prog n #[.pointer (some ⟨b, 0, none⟩)] ((w.setCell ⟨b, 2, none⟩ (.int .i64 ((d : Int) + 1))).alloc itm0) fun e w' => ∃ p1 q1 r1 xa xn xc p3 q3 r3, e = .returned (.agg #[.slice p1 q1 r1, .int .i64 f1, .int .i64 s1, .string ⟨nm1.toArray⟩, .int .i64 tk1, .int .i64 tl1, .int .i64 n1, .int .i64 m1, .slice xa xn xc, .int .i64 a1, .slice p3 q3 r3, .int .i64 at_]) ∧ RepRow w' ((w.setCell ⟨b, 2, none⟩ (.int .i64 ((d : Int) + 1))).alloc itm0).heap.size [] (itemD (.mk ns (.mk f1 s1 nm1 tk1 tl1 n1 m1 ks1 a1) ss at_)) [.slice p1 q1 r1, .int .i64 f1, .int .i64 s1, .string ⟨nm1.toArray⟩, .int .i64 tk1, .int .i64 tl1, .int .i64 n1, .int .i64 m1, .slice xa xn xc, .int .i64 a1, .slice p3 q3 r3, .int .i64 at_] ∧ Pa w' b g cap rv T j (d + 1) ∧ ((w.setCell ⟨b, 2, none⟩ (.int .i64 ((d : Int) + 1))).alloc itm0).grownBy w' (some b) := hcc.mono (by rintro e w' ⟨vs, rfl, hr9, hP9, hg9⟩; obtain ⟨p1, q1, r1, xa, xn, xc, p3, q3, r3, e9⟩ := itemInv hr9; subst e9; exact ⟨p1, q1, r1, xa, xn, xc, p3, q3, r3, rfl, hr9, hP9, hg9⟩)
    clear hf hcc
    unfold itm0 at p2 f2 hc2
    go_enter Tryz.func153, Tryz.ntmps153
    go_wp2_with (go_at_call 75; refine (hr _).mono ?_; rintro e w9 ⟨rfl, hw9⟩; rw [hw9]; clear hw9)
    refine hc2.mono ?_
    rintro e w1 ⟨p1, q1, r1, xa, xn, xc, p3, q3, r3, rfl, hk1, hP1, hg1⟩
    have q2 := hP1.st.c2
    have g2 := hP1.st.fr 2
    have hb1 := hP1.bl
    have hne1 : ¬ b = w1.heap.size := by omega
    have hgW : w.grownBy w1 (some b) := hgS.trans hg1
    have hs1 := hg1.size
    have hs2 := HSS.out
    unfold itm0 at hs2
    refine Hid.out ?_
    refine Lib.hid ?_
    go_wp2_with (with_reducible refine hold_st 4 ?_)
    obtain ⟨W, hW⟩ : ∃ W, W = (w1.setCell ⟨b, 2, none⟩ (.int .i64 (d : Int))).alloc (.cells #[.slice p1 q1 r1, .int .i64 f1, .int .i64 s1, .string ⟨nm1.toArray⟩, .int .i64 tk1, .int .i64 tl1, .int .i64 n1, .int .i64 m1, .slice xa xn xc, .int .i64 a1, .slice p3 q3 r3, .int .i64 at_] 41) := ⟨_, rfl⟩
    rw [← hW]
    have hg2 : w1.grownBy W (some b) := by rw [hW]; exact galloc (grown_set _ _ _) _
    have hPW : Pst W b (.slice (some ⟨g, 0, none⟩) T.length cap) rv j d := by
      have e := (hP1.st.setDeep d).kept (World.grownBy_alloc _ (.cells #[.slice p1 q1 r1, .int .i64 f1, .int .i64 s1, .string ⟨nm1.toArray⟩, .int .i64 tk1, .int .i64 tl1, .int .i64 n1, .int .i64 m1, .slice xa xn xc, .int .i64 a1, .slice p3 q3 r3, .int .i64 at_] 41) none) (by simp)
      rw [hW]; exact e
    clear hW
    refine Lib.hid ?_
    refine wpList_store_gen rfl _ _ _ rfl w.heap.size _ rfl rfl 41 _ (((hg1.trans hg2).block w.heap.size (by omega) (by simp; omega)).trans HBS.out) (by kernel_rfl) rfl (by simp [Value.oneCell']) ?_
    intro w4 hh4 hg4
    go_wp2
    (try simp only [Exit.inBlock, Exit.then])
    refine bodyPost_ret (results_cell_row rfl _ _ w.heap.size 41 _ (0, 0) _ rfl hh4 Tryz.underlying41 rfl (by kernel_rfl)) rfl ?_
    have hG : w.grownBy w4 (some b) := (hgW.trans hg2).andThen hg4 (fun j e => .inl (by cases e; exact Nat.le_refl _))
    exact ⟨_, rfl, RepRow.mono (by omega) (RepRow.keptX hg4 (fun k e => by cases e; left; omega) (RepRow.keptX hg2 (fun k e => by cases e; left; omega) hk1)), HH.out.to hG (hPW.kept hg4 (by simp; omega)) hP1.lt, hG⟩

set_option maxHeartbeats 6400000 in
set_option maxRecDepth 20000 in
theorem gitem_auto (i : Nat) (R : Gram.PR Gram.Item) (hf : R.isFuel = false) (w : World) (h : Pa w b g cap rv T i d) (hs : Gram.sees T i [97, 117, 116, 111, 109, 97, 116, 111, 110] = true) (hc : ∀ wx, Pa wx b g cap rv T i d → Calls Tryz.prog 153 #[.pointer (some ⟨b, 0, none⟩), .func (.func 154) #[.pointer (some ⟨b, 0, none⟩)] #[]] wx fun e w' => rPost itemD wx b g cap rv T d R e w') :
    Calls Tryz.prog 127 #[.pointer (some ⟨b, 0, none⟩)] w fun e w' => rPost itemD w b g cap rv T d R e w' := by
  have hbw := h.bl
  have hA := gsees_any b g cap rv T i d ⟨#[97, 117, 116, 111, 109, 97, 116, 111, 110]⟩ _ (h.alloc itm0)
  have hs' : Gram.sees T i (ByteArray.mk #[97, 117, 116, 111, 109, 97, 116, 111, 110]).data.toList = true := hs
  rw [hs'] at hA
  have hcc := fun wx (hx : (w.alloc itm0).grownBy wx none) => hc wx ((h.alloc itm0).kept hx)
  have hmf := makeFunc_run
  have HH := Lib.hid h
  clear h hc hs hs'
  cases R with
  | fuel => cases hf
  | bad a er =>
    simp only [rPost] at hcc
    go_enter Tryz.func127, Tryz.ntmps127
    go_wp2_with (first | (go_at_call 76; refine hA.mono ?_; rintro e w1 ⟨rfl, hg1⟩) | (go_at_call 153; refine (hcc _ hg1).mono ?_; rintro e w5 ⟨rfl, hg5⟩))
    exact ⟨rfl, rfl, (grown_some ((World.grownBy_alloc w itm0 none).trans hg1) b).trans hg5⟩
  | ok x j =>
    cases x with
    | mk ns ex ss at_ =>
    cases ex with
    | mk f1 s1 nm1 tk1 tl1 n1 m1 ks1 a1 =>
    simp only [rPost] at hcc
    have hc2 : ∀ wx, (w.alloc itm0).grownBy wx none → Calls Tryz.prog 153 #[.pointer (some ⟨b, 0, none⟩), .func (.func 154) #[.pointer (some ⟨b, 0, none⟩)] #[]] wx fun e w' => ∃ p1 q1 r1 xa xn xc p3 q3 r3, e = .returned (.agg #[.slice p1 q1 r1, .int .i64 f1, .int .i64 s1, .string ⟨nm1.toArray⟩, .int .i64 tk1, .int .i64 tl1, .int .i64 n1, .int .i64 m1, .slice xa xn xc, .int .i64 a1, .slice p3 q3 r3, .int .i64 at_]) ∧ RepRow w' wx.heap.size [] (itemD (.mk ns (.mk f1 s1 nm1 tk1 tl1 n1 m1 ks1 a1) ss at_)) [.slice p1 q1 r1, .int .i64 f1, .int .i64 s1, .string ⟨nm1.toArray⟩, .int .i64 tk1, .int .i64 tl1, .int .i64 n1, .int .i64 m1, .slice xa xn xc, .int .i64 a1, .slice p3 q3 r3, .int .i64 at_] ∧ Pa w' b g cap rv T j d ∧ wx.grownBy w' (some b) := fun wx hx => (hcc wx hx).mono (by rintro e w' ⟨vs, rfl, hr9, hP9, hg9⟩; obtain ⟨p1, q1, r1, xa, xn, xc, p3, q3, r3, e9⟩ := itemInv hr9; subst e9; exact ⟨p1, q1, r1, xa, xn, xc, p3, q3, r3, rfl, hr9, hP9, hg9⟩)
    clear hcc
    go_enter Tryz.func127, Tryz.ntmps127
    go_wp2_with (first | (go_at_call 76; refine hA.mono ?_; rintro e w1 ⟨rfl, hg1⟩) | (go_at_call 153; refine (hc2 _ hg1).mono ?_; rintro e w5 ⟨p1, q1, r1, xa, xn, xc, p3, q3, r3, rfl, hk5, hP5, hg5⟩; refine Hid.out ?_))
    have hgA : (w.alloc itm0).grownBy w5 (some b) := (grown_some hg1 b).trans hg5
    have hsA := hg1.size
    rw [World.size_alloc] at hsA
    refine Lib.hid ?_
    go_wp2_with (with_reducible refine hold_st 2 ?_)
    refine Lib.hid ?_
    refine wpList_store_gen rfl _ _ _ rfl w.heap.size _ rfl rfl 41 _ ((hgA.block w.heap.size (by simp) (by simp; omega)).trans (heap_alloc_new w itm0)) (by kernel_rfl) rfl (by simp [Value.oneCell']) ?_
    intro w7 hh7 hg7
    go_wp2
    (try simp only [Exit.inBlock, Exit.then])
    refine bodyPost_ret (results_cell_row rfl _ _ w.heap.size 41 _ (0, 0) _ rfl hh7 Tryz.underlying41 rfl (by kernel_rfl)) rfl ?_
    have hG : w.grownBy w7 (some b) := ((grown_some (World.grownBy_alloc w itm0 none) b).trans hgA).andThen hg7 (fun j e => .inl (by cases e; exact Nat.le_refl _))
    exact ⟨_, rfl, RepRow.mono (by omega) (RepRow.keptX hg7 (fun k e => by cases e; left; omega) hk5), HH.out.to hG (hP5.st.kept hg7 (by simp; omega)) hP5.lt, hG⟩

set_option maxHeartbeats 6400000 in
set_option maxRecDepth 20000 in
theorem gitem_eq (i : Nat) (R : Gram.PR Gram.Item) (hf : R.isFuel = false) (w : World) (h : Pa w b g cap rv T i d) (hs : Gram.sees T i [97, 117, 116, 111, 109, 97, 116, 111, 110] = false) (hc : ∀ wx, Pa wx b g cap rv T i d → Calls Tryz.prog 155 #[.pointer (some ⟨b, 0, none⟩)] wx fun e w' => rPost itemD wx b g cap rv T d R e w') :
    Calls Tryz.prog 127 #[.pointer (some ⟨b, 0, none⟩)] w fun e w' => rPost itemD w b g cap rv T d R e w' := by
  have hbw := h.bl
  have hA := gsees_any b g cap rv T i d ⟨#[97, 117, 116, 111, 109, 97, 116, 111, 110]⟩ _ (h.alloc itm0)
  have hs' : Gram.sees T i (ByteArray.mk #[97, 117, 116, 111, 109, 97, 116, 111, 110]).data.toList = false := hs
  rw [hs'] at hA
  have hcc := fun wx (hx : (w.alloc itm0).grownBy wx none) => hc wx ((h.alloc itm0).kept hx)
  have hmf := makeFunc_run
  have HH := Lib.hid h
  clear h hc hs hs'
  cases R with
  | fuel => cases hf
  | bad a er =>
    simp only [rPost] at hcc
    go_enter Tryz.func127, Tryz.ntmps127
    go_wp2_with (first | (go_at_call 76; refine hA.mono ?_; rintro e w1 ⟨rfl, hg1⟩) | (go_at_call 155; refine (hcc _ hg1).mono ?_; rintro e w5 ⟨rfl, hg5⟩))
    exact ⟨rfl, rfl, (grown_some ((World.grownBy_alloc w itm0 none).trans hg1) b).trans hg5⟩
  | ok x j =>
    cases x with
    | mk ns ex ss at_ =>
    cases ex with
    | mk f1 s1 nm1 tk1 tl1 n1 m1 ks1 a1 =>
    simp only [rPost] at hcc
    have hc2 : ∀ wx, (w.alloc itm0).grownBy wx none → Calls Tryz.prog 155 #[.pointer (some ⟨b, 0, none⟩)] wx fun e w' => ∃ p1 q1 r1 xa xn xc p3 q3 r3, e = .returned (.agg #[.slice p1 q1 r1, .int .i64 f1, .int .i64 s1, .string ⟨nm1.toArray⟩, .int .i64 tk1, .int .i64 tl1, .int .i64 n1, .int .i64 m1, .slice xa xn xc, .int .i64 a1, .slice p3 q3 r3, .int .i64 at_]) ∧ RepRow w' wx.heap.size [] (itemD (.mk ns (.mk f1 s1 nm1 tk1 tl1 n1 m1 ks1 a1) ss at_)) [.slice p1 q1 r1, .int .i64 f1, .int .i64 s1, .string ⟨nm1.toArray⟩, .int .i64 tk1, .int .i64 tl1, .int .i64 n1, .int .i64 m1, .slice xa xn xc, .int .i64 a1, .slice p3 q3 r3, .int .i64 at_] ∧ Pa w' b g cap rv T j d ∧ wx.grownBy w' (some b) := fun wx hx => (hcc wx hx).mono (by rintro e w' ⟨vs, rfl, hr9, hP9, hg9⟩; obtain ⟨p1, q1, r1, xa, xn, xc, p3, q3, r3, e9⟩ := itemInv hr9; subst e9; exact ⟨p1, q1, r1, xa, xn, xc, p3, q3, r3, rfl, hr9, hP9, hg9⟩)
    clear hcc
    go_enter Tryz.func127, Tryz.ntmps127
    go_wp2_with (first | (go_at_call 76; refine hA.mono ?_; rintro e w1 ⟨rfl, hg1⟩) | (go_at_call 155; refine (hc2 _ hg1).mono ?_; rintro e w5 ⟨p1, q1, r1, xa, xn, xc, p3, q3, r3, rfl, hk5, hP5, hg5⟩; refine Hid.out ?_))
    have hgA : (w.alloc itm0).grownBy w5 (some b) := (grown_some hg1 b).trans hg5
    have hsA := hg1.size
    rw [World.size_alloc] at hsA
    refine Lib.hid ?_
    go_wp2_with (with_reducible refine hold_st 2 ?_)
    refine Lib.hid ?_
    refine wpList_store_gen rfl _ _ _ rfl w.heap.size _ rfl rfl 41 _ ((hgA.block w.heap.size (by simp) (by simp; omega)).trans (heap_alloc_new w itm0)) (by kernel_rfl) rfl (by simp [Value.oneCell']) ?_
    intro w7 hh7 hg7
    go_wp2
    (try simp only [Exit.inBlock, Exit.then])
    refine bodyPost_ret (results_cell_row rfl _ _ w.heap.size 41 _ (0, 0) _ rfl hh7 Tryz.underlying41 rfl (by kernel_rfl)) rfl ?_
    have hG : w.grownBy w7 (some b) := ((grown_some (World.grownBy_alloc w itm0 none) b).trans hgA).andThen hg7 (fun j e => .inl (by cases e; exact Nat.le_refl _))
    exact ⟨_, rfl, RepRow.mono (by omega) (RepRow.keptX hg7 (fun k e => by cases e; left; omega) hk5), HH.out.to hG (hP5.st.kept hg7 (by simp; omega)) hP5.lt, hG⟩

theorem auto_enters (args : Array Value) (w : World) : (callFunc 154 args).run Tryz.prog w = .ok (.enter 154 args) w := genters Tryz.func154 (by kernel_rfl) rfl args w
end

/-- item does as the model does, by what state does one deeper -/
theorem gitem_any (b g cap : Nat) (rv : Value) (T : List Lex.Tk) (d f i : Nat) (hC : ∀ f', f' < f → ∀ (i : Nat) (w : World), Pa w b g cap rv T i (d + 1) → (Gram.sees T i [115, 116, 97, 116, 101]) = true → (Gram.state T f' (d + 1) i).isFuel = false → Calls Tryz.prog 186 #[.pointer (some ⟨b, 0, none⟩)] w fun e w' => rPost stateD w b g cap rv T (d + 1) (Gram.state T f' (d + 1) i) e w') (w : World) (h : Pa w b g cap rv T i d) (hf : (Gram.item T (f + 1) d i).isFuel = false) :
    Calls Tryz.prog 127 #[.pointer (some ⟨b, 0, none⟩)] w fun e w' => rPost itemD w b g cap rv T d (Gram.item T (f + 1) d i) e w' := by
  unfold Gram.item at hf ⊢
  rcases Bool.eq_false_or_eq_true (Gram.sees T i [97, 117, 116, 111, 109, 97, 116, 111, 110]) with hs | hs
  · rw [if_pos hs] at hf ⊢
    unfold Gram.room at hf ⊢
    refine gitem_auto b g cap rv T d i _ hf w h hs (fun wx hx => ?_)
    by_cases hd : 40 ≤ d
    · rw [if_pos hd]
      exact gwithinI_no b g cap rv T d _ i wx hx hd
    · rw [if_neg hd] at hf ⊢
      exact gwithinI_yes b g cap rv T d _ auto_enters i _ hf wx hx (by omega) (fun wy hy => gautomaton_any b g cap rv T (d + 1) f i hC wy hy hs hf)
  · rw [if_neg (by rw [hs]; decide)] at hf ⊢
    exact gitem_eq b g cap rv T d i _ hf w h hs (fun wx hx => gequation_any b g cap rv T d f i (cexp_all b g cap rv T f) wx hx hf)

end Go.Proofs.YtachmiajldeakaaGreatDoor
