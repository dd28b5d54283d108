/- My texts RpS RpT RpU RpV RpW RpX RpY RpZ RqA, joined. -/
import Derived.Test.YtbbamgjdnibldaaGreatMhF
set_option linter.unusedVariables false
set_option linter.unusedSimpArgs false
set_option linter.unnecessarySimpa false
set_option linter.unusedSectionVars false
set_option maxHeartbeats 12800000
set_option maxRecDepth 20000
namespace Go.Proofs.YtbbamgjdnibldaaGreat
open Go.RowKit Go.Maps Go.WideMaps
structure Dr (w0 w : World) (b g cap : Nat) (T : List Lex.Tk) (B : Nat) (s : Gram.Rf.St) (vs : List Gram.Var) (v : Value) : Prop where
 p0 : ∃ s0, Rp w0 b g cap T s0
 pa : Rp w b g cap T s
 gr : w0.grownBy w (some b)
 lo : w0.heap.size ≤ B
 Bs : B ≤ w.heap.size
 gro : GrowD w B 60 5 (vs.map varD) v
section
variable {w0 w w' : World} {b g cap : Nat} {T : List Lex.Tk} {B : Nat} {s s' : Gram.Rf.St} {vs : List Gram.Var} {v : Value}
theorem Dr.bl (h : Dr w0 w b g cap T B s vs v) : b < w0.heap.size := by
 obtain ⟨i0, h0⟩ := h.p0
 exact h0.bl
theorem Dr.bB (h : Dr w0 w b g cap T B s vs v) : b < B := Nat.lt_of_lt_of_le h.bl h.lo
theorem Dr.on (h : Dr w0 w b g cap T B s vs v) (hg : w.grownBy w' (some b)) (hp : Rp w' b g cap T s') : Dr w0 w' b g cap T B s' vs v :=
 ⟨h.p0, hp, h.gr.trans hg, h.lo, Nat.le_trans h.Bs hg.size, h.gro.keptB hg h.bB⟩
theorem Dr.kept0 (h : Dr w0 w b g cap T B s vs v) (hg : w.grownBy w' none) : Dr w0 w' b g cap T B s vs v := h.on (grown_some hg b) (h.pa.kept hg)
theorem Dr.ge (h : Dr w0 w b g cap T B s vs v) : ∀ k, v.ownBlock = some k → B ≤ k := h.gro.ge
theorem Dr.len (h : Dr w0 w b g cap T B s vs v) (ty : TypeId) (wx : World) : (Builtin.len_ #[41] ty #[v]).run Tryz.prog wx = .ok (.int .i64 (vs.length : Int)) wx := by
 obtain ⟨xs, ho, _⟩ := h.gro
 rw [List.length_map] at ho
 exact len_Var ho ty wx
theorem Dr.by {us : List Gram.Var} {u : Value} (h : Dr w0 w b g cap T B s vs v) (hg : w.grownBy w' v.ownBlock) (hgro : GrowD w' B 60 5 (us.map varD) u) : Dr w0 w' b g cap T B s us u := by
 obtain ⟨i0, h0⟩ := h.p0
 have hG : w0.grownBy w' (some b) := h.gr.andThen hg (fun k e => .inl (Nat.le_trans h.lo (h.ge k e)))
 exact ⟨h.p0, h0.to hG (h.pa.st.kept hg (by intro e; have := h.ge b e.symm; have := h.bB; omega)) h.pa.lt, hG, h.lo, Nat.le_trans h.Bs hg.size, hgro⟩
end
def drPost (w0 : World) (b g cap : Nat) (T : List Lex.Tk) (B : Nat) (r : Option (List Gram.Var × Gram.Rf.St)) (e : Ending) (w' : World) : Prop :=
 match r with
 | some x => ∃ v, e = .returned v ∧ Dr w0 w' b g cap T B x.2 x.1 v
 | none => False
theorem Dr.put {w0 w : World} {b g cap : Nat} {T : List Lex.Tk} {B gg n cp : Nat} {s : Gram.Rf.St} {A C : List Gram.Var} {x x' : Gram.Var} (h : Dr w0 w b g cap T B s (A ++ x :: C) (.slice (some ⟨gg, 0, none⟩) n cp)) (c : Nat) (hc : c < 5) {d' : D} {u : Value} (hx : (varD x).set c d' = varD x') (hu : RepC w B [gg] d' u) (m : Nat) (hm : m = A.length * 5 + c) :
  Dr w0 (w.setCell ⟨gg, m, none⟩ u) b g cap T B s (A ++ x' :: C) (.slice (some ⟨gg, 0, none⟩) n cp) := by
 refine h.by (grown_set w ⟨gg, m, none⟩ u) (h.gro.put m hu (by simp) ?_)
 simp only [List.map_append, List.map_cons]
 rw [flat_set _ _ _ c (by simpa [varD] using hc) m (by rw [vars_flat]; exact hm), hx]
def mkVr (n : Gram.B × Int) : Gram.Var := ⟨n.1, 0, 0, [], n.2⟩
def mkTr (t : Int × Int) (n : Gram.B × Int) : Gram.Var := ⟨n.1, t.1, t.2, [], n.2⟩
theorem decl_of {T : List Lex.Tk} {f : Nat} {vars : List Gram.Var} {s t : Gram.Rf.St} {acc : List (Gram.B × Int)} (h : Gram.Rf.names T f vars s = some ((vars ++ acc.map mkVr, false), t)) :
  Gram.Rf.decl T f vars s = some (vars ++ acc.map (mkTr ((Gram.Rf.kind T (Gram.Rf.take T [58] t)).1, (if Gram.Rf.is T [94] (Gram.Rf.kind T (Gram.Rf.take T [58] t)).2 then Gram.Rf.size T (Gram.Rf.adv (Gram.Rf.kind T (Gram.Rf.take T [58] t)).2) else (0, (Gram.Rf.kind T (Gram.Rf.take T [58] t)).2)).1)), (if Gram.Rf.is T [94] (Gram.Rf.kind T (Gram.Rf.take T [58] t)).2 then Gram.Rf.size T (Gram.Rf.adv (Gram.Rf.kind T (Gram.Rf.take T [58] t)).2) else (0, (Gram.Rf.kind T (Gram.Rf.take T [58] t)).2)).2) := by
 unfold Gram.Rf.decl
 rw [h]
 simp only [Gram.Rf.bindS]
 rw [if_neg (by decide), List.take_left, List.drop_left, List.map_map]
 rfl
section
variable (b g cap : Nat) (T : List Lex.Tk)
theorem rdecl_any (f : Nat) (w0 w : World) (B : Nat) (s : Gram.Rf.St) (vars : List Gram.Var) (v : Value) (h : Dr w0 w b g cap T B s vars v) (hv1 : vars.length ≤ 201) (hv0 : s.e = 0 → vars.length ≤ 200) (hf : (Gram.Rf.decl T f vars s).isSome = true) :
  Calls Tryz.prog 132 #[.pointer (some ⟨b, 0, none⟩), v] w fun e w' => drPost w0 b g cap T B (Gram.Rf.decl T f vars s) e w' := by
 obtain ⟨it, hit, hz, hsz, hby⟩ := infoP info_Var
 obtain ⟨R, hR⟩ : ∃ R, R = Gram.Rf.decl T f vars s := ⟨_, rfl⟩
 rw [← hR] at hf ⊢
 have HR := ld hR
 clear hR
 have hbw := h.bl
 have hbB := h.bB
 have hlo := h.lo
 have hlen0 := h.len
 have HH := ld h
 clear h
 go_enter Tryz.func132, Tryz.ntmps132
 go_wp2
 go_loopg [1] f (fun (f' : Nat) (s1 : Value) (wr : World) => ∃ (acc : List (Gram.B × Int)) (s' : Gram.Rf.St), f' ≤ f ∧ vars.length + acc.length ≤ 201 ∧ (s'.e = 0 → vars.length + acc.length ≤ 200) ∧ Hid (Dr w0 wr b g cap T B s' (vars ++ acc.map mkVr) s1 ∧ Gram.Rf.names T f' (vars ++ acc.map mkVr) s' = Gram.Rf.names T f vars s))
 case atStart => exact ⟨[], s, Nat.le_refl _, by simpa using hv1, by simpa using hv0, ld ⟨by simpa using HH.out, by simp⟩⟩
 case round =>
  obtain ⟨acc, s', hff, ha1, ha0, HG⟩ := hrel
  obtain ⟨hD, hL⟩ := HG.out
  clear HG hlen0
  have hP := hD.pa
  have p2 := hP.st.c2
  have hlf : ∀ (ty : TypeId) (wx : World), (Builtin.len_ #[41] ty #[u1]).run Tryz.prog wx = .ok (.int .i64 ((vars.length + acc.length : Nat) : Int)) wx := by
   have e := hD.len
   rw [List.length_append, List.length_map] at e
   exact e
  have HD := ld hD
  clear hD
  rcases Nat.eq_zero_or_pos gk with hz0 | hz0
  ·rw [hz0] at hL; rw [HR.out] at hf; unfold Gram.Rf.decl at hf; rw [← hL] at hf; exact absurd hf (by simp [Gram.Rf.names, Gram.Rf.bindS])
  obtain ⟨f', hfe⟩ : ∃ f', gk = f' + 1 := ⟨gk - 1, by omega⟩
  subst hfe
  have hr : Gram.Rf.names T f vars s = if s'.e = 0 then (if (Gram.tk T s'.i).kind = 1 ∧ 200 ≤ (vars ++ acc.map mkVr).length then some ((vars ++ acc.map mkVr, true), Gram.Rf.fail T 2 s') else if Gram.Rf.is T [44] (Gram.Rf.name T s').2 then Gram.Rf.names T f' (vars ++ acc.map mkVr ++ [⟨(Gram.Rf.name T s').1, 0, 0, [], ((Gram.tk T s'.i).at_ : Int)⟩]) (Gram.Rf.adv (Gram.Rf.name T s').2) else some ((vars ++ acc.map mkVr ++ [⟨(Gram.Rf.name T s').1, 0, 0, [], ((Gram.tk T s'.i).at_ : Int)⟩], false), (Gram.Rf.name T s').2)) else some ((vars ++ acc.map mkVr, false), s') := by rw [← hL]; conv => lhs; unfold Gram.Rf.names
  rw [List.length_append, List.length_map] at hr
  have HN := ld hr
  clear hr hL
  by_cases he : s'.e = 0
  ·have b0 : (s'.e == 0) = true := by rw [beq_iff_eq]; exact he
   have ha0 := ha0 he
   have HE0 := ld he
   have hn := fun wx (hx : Rp wx b g cap T s') => rtok_any b g cap T s' wx hx
   have hN := fun wx (hx : Rp wx b g cap T s') => rname_any b g cap T s' wx hx
   have hbad : (Gram.tk T s'.i).kind ≠ 1 → (Gram.Rf.name T s').2.e ≠ 0 := by
    intro hk
    unfold Gram.Rf.name Gram.Rf.nameOk
    rw [if_neg (by simp [hk])]
    simp [Gram.Rf.fail, he]
   generalize Gram.tk T s'.i = y at hn HN hbad
   generalize Gram.Rf.name T s' = rr at hN HN hbad
   obtain ⟨yk, yt, yn, yu, ya⟩ := y
   obtain ⟨nx, s2⟩ := rr
   have hfk := fldKind ⟨yk, yt, yn, yu, ya⟩
   have hfa := fldAt ⟨yk, yt, yn, yu, ya⟩
   simp only [tokV] at hn hfk hfa
   simp only at hN hbad
   clear he
   generalize s'.e = e0 at p2 b0
   by_cases hk : yk = 1
   ·have bk : (yk == 1) = true := by rw [beq_iff_eq]; exact hk
    by_cases hm : 200 ≤ vars.length + acc.length
    ·have hrm := fun wx (hx : Rp wx b g cap T s') => rfull_yes b g cap T s' ((vars.length + acc.length : Nat) : Int) 200 (by omega) wx hx
     have HE : Hid (R = some (vars ++ acc.map mkVr, Gram.Rf.fail T 2 s')) := by show _ = _; rw [HR.out]; unfold Gram.Rf.decl; rw [HN.out, if_pos HE0.out, if_pos ⟨hk, hm⟩]; rfl
     clear HN HR hbad hk hm
     go_wp2_with (first | (go_at_call 65; refine (hrm _ (hP.kept hg1)).mono ?_; rintro e w2 ⟨rfl, hP2, hg2⟩) | (go_at_call 62; refine (hn _ hP).mono ?_; rintro e w1 ⟨rfl, hg1⟩))
     go_ret
     rw [HE.out]
     exact ⟨_, rfl, HD.out.on ((grown_some hg1 b).trans hg2) hP2⟩
    have hrm := fun wx => rfull_no b ((vars.length + acc.length : Nat) : Int) 200 (by omega) wx
    have HE : Hid (Gram.Rf.names T f vars s = if Gram.Rf.is T [44] s2 then Gram.Rf.names T f' (vars ++ acc.map mkVr ++ [⟨nx, 0, 0, [], (ya : Int)⟩]) (Gram.Rf.adv s2) else some ((vars ++ acc.map mkVr ++ [⟨nx, 0, 0, [], (ya : Int)⟩], false), s2)) := by show _ = _; rw [HN.out, if_pos HE0.out, if_neg (fun e => hm e.2)]
    clear HN hbad hk
    go_wp2_with (first | (go_at_call 65; refine (hrm _).mono ?_; rintro e w8 ⟨rfl, hw8⟩; rw [hw8]; clear hw8) | (go_at_call 62; first | (refine (hn _ (hP.kept hg1)).mono ?_; rintro e w2 ⟨rfl, hg2⟩) | (refine (hn _ hP).mono ?_; rintro e w1 ⟨rfl, hg1⟩)) | (go_at_call 100; refine (hN _ ((hP.kept hg1).kept hg2)).mono ?_; rintro e w3 ⟨rfl, hP3, hg3⟩; refine Hid.out ?_))
    have hgA : wr.grownBy w3 (some b) := (grown_some (hg1.trans hg2) b).trans hg3
    have hD2 := HD.out.on hgA hP3
    have hDb := hD2.kept0 (ga w3 (.cells #[.string ⟨nx.toArray⟩, .int .i64 0, .int .i64 0, .slice none 0 0, .int .i64 (ya : Int)] 60) none)
    obtain ⟨xs2, ho2, hr2⟩ := hDb.gro
    rw [List.length_map, List.length_append, List.length_map] at ho2
    refine ld ?_
    go_wp2_with (at_builtin; refine wpList_append_own_at _ rfl _ _ 41 rfl B 60 it _ 5 64 Tryz.underlying41 hit hz hsz hby rfl (by decide) _ (vars.length + acc.length) xs2 rfl ho2 ⟨w3.heap.size, 0, none⟩ 1 1 [.string ⟨nx.toArray⟩, .int .i64 0, .int .i64 0, .slice none 0 0, .int .i64 (ya : Int)] rfl rfl (cell_row_new w3 [.string ⟨nx.toArray⟩, .int .i64 0, .int .i64 0, .slice none 0 0, .int .i64 (ya : Int)] 60) (by simp [Value.oneCell']) ?_ ?_ ?_ ?_)
    ·unfold maxLen; omega
    ·omega
    ·exact hDb.Bs
    intro v' w4 hown' hgrow3 _ hvb
    have hG3 : GrowD w4 B 60 5 ((vars ++ acc.map mkVr).map varD ++ [varD (mkVr (nx, (ya : Int)))]) v' := growD_snoc hgrow3 (by rw [List.length_map, List.length_append, List.length_map]; exact hown') hr2 (.cons (.c _) (.cons (.c _) (.cons (.c _) (.cons (RepC.nil _ _ _ _ _) (.cons (.c _) .nil))))) (by first | exact hvb | (rw [World.size_alloc]; exact hvb))
    have hD3 : Dr w0 w4 b g cap T B s2 (vars ++ (acc ++ [(nx, (ya : Int))]).map mkVr) v' := hDb.by hgrow3 (by
     have e : (vars ++ (acc ++ [(nx, (ya : Int))]).map mkVr).map varD = (vars ++ acc.map mkVr).map varD ++ [varD (mkVr (nx, (ya : Int)))] := by simp
     rw [e]; exact hG3)
    have eV : vars ++ acc.map mkVr ++ [(⟨nx, 0, 0, [], (ya : Int)⟩ : Gram.Var)] = vars ++ (acc ++ [(nx, (ya : Int))]).map mkVr := by simp [mkVr]
    have HE : Hid (Gram.Rf.names T f vars s = if Gram.Rf.is T [44] s2 then Gram.Rf.names T f' (vars ++ (acc ++ [(nx, (ya : Int))]).map mkVr) (Gram.Rf.adv s2) else some ((vars ++ (acc ++ [(nx, (ya : Int))]).map mkVr, false), s2)) := by show _ = _; rw [HE.out, eV]
    have hPm := hD3.pa
    have HD3 := ld hD3
    clear hG3 hD3 hown' hvb hDb hD2 hr2 ho2 eV HD
    have hMc := rmaybe_any b g cap T s2 ⟨#[44]⟩ w4 hPm
    unfold Gram.Rf.maybe at hMc
    rw [show ((⟨#[44]⟩ : ByteArray)).data.toList = [44] from rfl] at hMc
    cases hsx : Gram.Rf.is T [44] s2 with
    | true =>
     rw [hsx, if_pos rfl] at hMc
     have he2 := (is_kind hsx).1
     go_wp2_with (go_at_call 102; refine hMc.mono ?_; rintro e w5 ⟨rfl, hP5, hg5⟩)
     go_roundg f'
     case measure => exact Nat.lt_succ_self _
     case rel => exact ⟨acc ++ [(nx, (ya : Int))], Gram.Rf.adv s2, by omega, by simp; omega, fun _ => by simp; omega, ld ⟨HD3.out.on hg5 hP5, by rw [HE.out, if_pos hsx]⟩⟩
    | false =>
     rw [hsx, if_neg (by decide)] at hMc
     have HNx : Hid (Gram.Rf.names T f vars s = some ((vars ++ (acc ++ [(nx, (ya : Int))]).map mkVr, false), s2)) := by show _ = _; rw [HE.out, if_neg (by rw [hsx]; decide)]
     clear HE hn hN hfk hfa hg1 hg2 hg3 hP3 hgA hP p2
     go_wp2_with (go_at_call 102; refine hMc.mono ?_; rintro e w5 ⟨rfl, hP5, hg5⟩; refine Hid.out ?_)
     have HDx := ld (HD3.out.on hg5 hP5)
     have hlx := HDx.out.len
     have hPx := hP5
     clear HD3 hg5 hP5 hMc hPm hlf
     have HRx := ld (HR.out.trans (decl_of HNx.out))
     clear HNx
     have hTk := rtake_any b g cap T s2 ⟨#[58]⟩ _ hPx
     rw [show ((⟨#[58]⟩ : ByteArray)).data.toList = [58] from rfl] at hTk
     have hKd := fun wx (hx : Rp wx b g cap T (Gram.Rf.take T [58] s2)) => rkindm_any b g cap T (Gram.Rf.take T [58] s2) wx hx
     generalize Gram.Rf.kind T (Gram.Rf.take T [58] s2) = kk at hKd HRx
     obtain ⟨kd, t1⟩ := kk
     simp only at hKd
     refine ld ?_
     go_wp2_with (first | (go_at_call 162; refine (hKd _ hPa).mono ?_; rintro e wb ⟨rfl, hPb, hgb⟩; refine Hid.out ?_) | (go_at_call 99; refine hTk.mono ?_; rintro e wa ⟨rfl, hPa, hga⟩))
     have hDb := (HDx.out.on hga hPa).on hgb hPb
     have hvlt := hDb.gro.lt
     have hy8 : ∀ k, v'.ownBlock = some k → k < wb.heap.size := fun k e => hvlt k (by rw [e]; simp)
     have hMb := rmaybe_any b g cap T t1 ⟨#[94]⟩ _ (hPb.alloc (.cells #[.int .i64 kd, .int .i64 0] 57))
     unfold Gram.Rf.maybe at hMb
     rw [show ((⟨#[94]⟩ : ByteArray)).data.toList = [94] from rfl] at hMb
     have HDb := ld hDb
     have hblb := hPb.bl
     clear hDb hvlt hTk hKd hPa hga hgb HDx
     cases hq : Gram.Rf.is T [94] t1 with
     | true =>
      rw [hq, if_pos rfl] at hMb
      have hSz := fun wx (hx : Rp wx b g cap T (Gram.Rf.adv t1)) => rsize_any b g cap T (Gram.Rf.adv t1) wx hx
      have HRy : Hid (R = some (vars ++ (acc ++ [(nx, (ya : Int))]).map (mkTr (kd, (Gram.Rf.size T (Gram.Rf.adv t1)).1)), (Gram.Rf.size T (Gram.Rf.adv t1)).2)) := by show _ = _; rw [HRx.out]; (try simp only); rw [hq, if_pos rfl]
      clear HRx
      generalize Gram.Rf.size T (Gram.Rf.adv t1) = zz at hSz HRy
      obtain ⟨zl, t2⟩ := zz
      simp only at hSz
      have HRy : Hid (R = some (vars ++ (acc ++ [(nx, (ya : Int))]).map (mkTr (kd, zl)), t2)) := HRy
      refine ld ?_
      go_wp2_with (first | (go_at_call 163; refine (hSz _ hPc).mono ?_; rintro e wd ⟨rfl, hPd, hgd⟩; refine Hid.out ?_) | (go_at_call 102; refine hMb.mono ?_; rintro e wc ⟨rfl, hPc, hgc⟩))
      have hgcd : (wb.alloc (.cells #[.int .i64 kd, .int .i64 0] 57)).grownBy wd (some b) := hgc.trans hgd
      have hrowT : wd.heap[wb.heap.size]? = some (.cells #[.int .i64 kd, .int .i64 0] 57 (0, 0)) := (hgcd.block wb.heap.size (by simp) (by simp; omega)).trans (heap_alloc_new wb _)
      obtain ⟨z0, z1, zf⟩ := rcells_2 hrowT
      have hgbd : wb.grownBy wd (some b) := (ga wb _ (some b)).trans hgcd
      have hX := Rp.setX HDb.out.pa hgbd hPd (Nat.le_refl wb.heap.size) 1 (.int .i64 zl)
      have hDw := HDb.out.on hX.2 hX.1
      have hrowU : (wd.setCell ⟨wb.heap.size, 1, none⟩ (.int .i64 zl)).heap[wb.heap.size]? = some (.cells #[.int .i64 kd, .int .i64 zl] 57 (0, 0)) := by rw [heap_setCell_same wd wb.heap.size 1 _ _ _ hrowT]; simp
      obtain ⟨y0, y1, _⟩ := rcells_2 hrowU
      have HDw := ld hDw
      have HY := ld (And.intro y0 y1)
      clear hDw hX hgbd hgcd hMb hSz hPc hgc hPd hgd y0 y1 hrowT hrowU
      refine ld ?_
      go_wp2
      obtain ⟨nw, hnw⟩ : ∃ nw, nw = (acc ++ [(nx, (ya : Int))]) := ⟨_, rfl⟩
      rw [← hnw] at HRy HDw
      obtain ⟨N, hNe⟩ : ∃ N, N = vars.length + nw.length := ⟨_, rfl⟩
      have hlN : ∀ (ty : TypeId) (wx : World), (Builtin.len_ #[41] ty #[v']).run Tryz.prog wx = .ok (.int .i64 (N : Int)) wx := by
       have e := HDw.out.len
       rw [List.length_append, List.length_map, ← hNe] at e
       exact e
      have HNe := ld hNe
      clear hNe hlx hnw HDb
      go_loopg [12] nw.length (fun (gz : Nat) (s12 : Value) (wq : World) => ∃ (M m : Nat), Hid (M = vars.length + m) ∧ m + gz = nw.length ∧ s12 = .int .i64 (M : Int) ∧ wq.cell? ⟨wb.heap.size, 0, none⟩ = some (.int .i64 kd) ∧ wq.cell? ⟨wb.heap.size, 1, none⟩ = some (.int .i64 zl) ∧ Hid (Dr w0 wq b g cap T B t2 (vars ++ (nw.take m).map (mkTr (kd, zl)) ++ (nw.drop m).map mkVr) v'))
      case atStart => exact ⟨vars.length, 0, ld rfl, by omega, rfl, HY.out.1, HY.out.2, ld (by simpa using HDw.out)⟩
      case round =>
       obtain ⟨M, m, HM9, hm9, rfl, c0, c1, HD4⟩ := hrel
       have hN2 := HNe.out
       have hM := HM9.out
       rcases Nat.eq_zero_or_pos gk with hz1 | hz1
       ·have hnl : ¬ (M : Int) < (N : Int) := by omega
        have hme : m = nw.length := by omega
        have HD5 : Hid (Dr w0 wr b g cap T B t2 (vars ++ nw.map (mkTr (kd, zl))) v') := by
         refine ld ?_
         have e := HD4.out
         rw [hme, List.take_length, List.drop_length] at e
         simpa using e
        clear HD4 HDw hN2 hM hme hm9
        go_wp2
        go_ret
        rw [HRy.out]
        exact ⟨_, rfl, HD5.out⟩
       ·have hlt : (M : Int) < (N : Int) := by omega
        have hnn : ¬ (M : Int) < 0 := by omega
        have hml : m < nw.length := by omega
        obtain ⟨f9, hfe9⟩ : ∃ f9, gk = f9 + 1 := ⟨gk - 1, by omega⟩
        have hdr : nw.drop m = nw[m] :: nw.drop (m + 1) := List.drop_eq_getElem_cons hml
        obtain ⟨a, ha⟩ : ∃ a, a = nw[m] := ⟨_, rfl⟩
        rw [← ha] at hdr
        have hD4 := HD4.out
        rw [hdr, List.map_cons] at hD4
        have hge4 := hD4.ge
        have hgr4 := hD4.gro
        obtain ⟨xs4, ho4, _⟩ := hD4.gro
        have hl4 : (vars ++ List.map (mkTr (kd, zl)) (List.take m nw) ++ mkVr a :: List.map mkVr (List.drop (m + 1) nw)).length = N := by
         simp only [List.length_append, List.length_map, List.length_cons, List.length_take, List.length_drop]; omega
        rw [List.length_map, hl4] at ho4
        rcases ho4.2 with ⟨e4, h40⟩ | ⟨gg, cc, cur, e4, hb4, _, hncc, hccm, _⟩
        ·omega
        subst e4
        have hMb : (M : Int) + 1 < 9223372036854775808 := by unfold maxLen at hccm; omega
        have hgg : gg < wb.heap.size := hy8 gg rfl
        have hA : (vars ++ List.map (mkTr (kd, zl)) (List.take m nw)).length = M := by
         simp only [List.length_append, List.length_map, List.length_take]; omega
        obtain ⟨q1, hq1⟩ := hgr4.there (M * 5 + 1) (by rw [List.length_map, hl4]; omega)
        obtain ⟨q2, hq2⟩ := hgr4.there (M * 5 + 1 + 1) (by rw [List.length_map, hl4]; omega)
        have hfz := hgr4.free
        have hn3 : ¬ gg = wb.heap.size := by omega
        have hn3' : ¬ wb.heap.size = gg := by omega
        have hD5 := hD4.put 1 (by omega) (x' := ⟨a.1, kd, 0, [], a.2⟩) (d' := .c (.int .i64 kd)) (u := .int .i64 kd) rfl (.c _) (M * 5 + 1) (by rw [hA])
        have hD6 := hD5.put 2 (by omega) (x' := ⟨a.1, kd, zl, [], a.2⟩) (d' := .c (.int .i64 zl)) (u := .int .i64 zl) rfl (.c _) (M * 5 + 1 + 1) (by rw [hA])
        have HD6 : Hid (Dr w0 ((wr.setCell ⟨gg, M * 5 + 1, none⟩ (.int .i64 kd)).setCell ⟨gg, M * 5 + 1 + 1, none⟩ (.int .i64 zl)) b g cap T B t2 (vars ++ (nw.take (m + 1)).map (mkTr (kd, zl)) ++ (nw.drop (m + 1)).map mkVr) (.slice (some ⟨gg, 0, none⟩) N cc)) := by
         refine ld ?_
         have e : vars ++ (nw.take (m + 1)).map (mkTr (kd, zl)) ++ (nw.drop (m + 1)).map mkVr = vars ++ List.map (mkTr (kd, zl)) (List.take m nw) ++ (⟨a.1, kd, zl, [], a.2⟩ : Gram.Var) :: List.map mkVr (List.drop (m + 1) nw) := by
          rw [List.take_add_one, List.getElem?_eq_getElem hml, ← ha]
          simp [mkTr]
         rw [e]
         exact hD6
        have hc0 : ((wr.setCell ⟨gg, M * 5 + 1, none⟩ (.int .i64 kd)).setCell ⟨gg, M * 5 + 1 + 1, none⟩ (.int .i64 zl)).cell? ⟨wb.heap.size, 0, none⟩ = some (.int .i64 kd) := ((grown_set _ ⟨gg, M * 5 + 1, none⟩ _).trans (grown_set _ ⟨gg, M * 5 + 1 + 1, none⟩ _)).cell c0 (by simp; omega)
        have hc1 : ((wr.setCell ⟨gg, M * 5 + 1, none⟩ (.int .i64 kd)).setCell ⟨gg, M * 5 + 1 + 1, none⟩ (.int .i64 zl)).cell? ⟨wb.heap.size, 1, none⟩ = some (.int .i64 zl) := ((grown_set _ ⟨gg, M * 5 + 1, none⟩ _).trans (grown_set _ ⟨gg, M * 5 + 1 + 1, none⟩ _)).cell c1 (by simp; omega)
        have HC : Hid _ := ld (And.intro hc0 hc1)
        clear hD4 hD5 hD6 HD4 HDw hc0 hc1 hgr4 ho4 hdr ha hN2 hM hl4 hA HY
        go_wp2
        subst hfe9
        go_roundg f9
        case measure => exact Nat.lt_succ_self _
        case rel => exact ⟨M + 1, m + 1, ld (by rw [HM9.out]; omega), by omega, by simp, HC.out.1, HC.out.2, HD6⟩
     | false =>
      rw [hq, if_neg (by decide)] at hMb
      have HRy : Hid (R = some (vars ++ (acc ++ [(nx, (ya : Int))]).map (mkTr (kd, 0)), t1)) := by show _ = _; rw [HRx.out]; (try simp only); rw [hq, if_neg (by decide)]
      clear HRx
      refine ld ?_
      go_wp2_with (go_at_call 102; refine hMb.mono ?_; rintro e wc ⟨rfl, hPc, hgc⟩; refine Hid.out ?_)
      have hrowT : wc.heap[wb.heap.size]? = some (.cells #[.int .i64 kd, .int .i64 0] 57 (0, 0)) := (hgc.block wb.heap.size (by simp) (by simp; omega)).trans (heap_alloc_new wb _)
      obtain ⟨z0, z1, zf⟩ := rcells_2 hrowT
      have hDw := HDb.out.on ((ga wb _ (some b)).trans hgc) hPc
      have HDw := ld hDw
      have HY := ld (And.intro z0 z1)
      clear hDw hMb hPc hgc hrowT z0 z1 zf
      refine ld ?_
      go_wp2
      obtain ⟨nw, hnw⟩ : ∃ nw, nw = (acc ++ [(nx, (ya : Int))]) := ⟨_, rfl⟩
      rw [← hnw] at HRy HDw
      obtain ⟨N, hNe⟩ : ∃ N, N = vars.length + nw.length := ⟨_, rfl⟩
      have hlN : ∀ (ty : TypeId) (wx : World), (Builtin.len_ #[41] ty #[v']).run Tryz.prog wx = .ok (.int .i64 (N : Int)) wx := by
       have e := HDw.out.len
       rw [List.length_append, List.length_map, ← hNe] at e
       exact e
      have HNe := ld hNe
      clear hNe hlx hnw HDb
      go_loopg [12] nw.length (fun (gz : Nat) (s12 : Value) (wq : World) => ∃ (M m : Nat), Hid (M = vars.length + m) ∧ m + gz = nw.length ∧ s12 = .int .i64 (M : Int) ∧ wq.cell? ⟨wb.heap.size, 0, none⟩ = some (.int .i64 kd) ∧ wq.cell? ⟨wb.heap.size, 1, none⟩ = some (.int .i64 0) ∧ Hid (Dr w0 wq b g cap T B t1 (vars ++ (nw.take m).map (mkTr (kd, 0)) ++ (nw.drop m).map mkVr) v'))
      case atStart => exact ⟨vars.length, 0, ld rfl, by omega, rfl, HY.out.1, HY.out.2, ld (by simpa using HDw.out)⟩
      case round =>
       obtain ⟨M, m, HM9, hm9, rfl, c0, c1, HD4⟩ := hrel
       have hN2 := HNe.out
       have hM := HM9.out
       rcases Nat.eq_zero_or_pos gk with hz1 | hz1
       ·have hnl : ¬ (M : Int) < (N : Int) := by omega
        have hme : m = nw.length := by omega
        have HD5 : Hid (Dr w0 wr b g cap T B t1 (vars ++ nw.map (mkTr (kd, 0))) v') := by
         refine ld ?_
         have e := HD4.out
         rw [hme, List.take_length, List.drop_length] at e
         simpa using e
        clear HD4 HDw hN2 hM hme hm9
        go_wp2
        go_ret
        rw [HRy.out]
        exact ⟨_, rfl, HD5.out⟩
       ·have hlt : (M : Int) < (N : Int) := by omega
        have hnn : ¬ (M : Int) < 0 := by omega
        have hml : m < nw.length := by omega
        obtain ⟨f9, hfe9⟩ : ∃ f9, gk = f9 + 1 := ⟨gk - 1, by omega⟩
        have hdr : nw.drop m = nw[m] :: nw.drop (m + 1) := List.drop_eq_getElem_cons hml
        obtain ⟨a, ha⟩ : ∃ a, a = nw[m] := ⟨_, rfl⟩
        rw [← ha] at hdr
        have hD4 := HD4.out
        rw [hdr, List.map_cons] at hD4
        have hge4 := hD4.ge
        have hgr4 := hD4.gro
        obtain ⟨xs4, ho4, _⟩ := hD4.gro
        have hl4 : (vars ++ List.map (mkTr (kd, 0)) (List.take m nw) ++ mkVr a :: List.map mkVr (List.drop (m + 1) nw)).length = N := by
         simp only [List.length_append, List.length_map, List.length_cons, List.length_take, List.length_drop]; omega
        rw [List.length_map, hl4] at ho4
        rcases ho4.2 with ⟨e4, h40⟩ | ⟨gg, cc, cur, e4, hb4, _, hncc, hccm, _⟩
        ·omega
        subst e4
        have hMb : (M : Int) + 1 < 9223372036854775808 := by unfold maxLen at hccm; omega
        have hgg : gg < wb.heap.size := hy8 gg rfl
        have hA : (vars ++ List.map (mkTr (kd, 0)) (List.take m nw)).length = M := by
         simp only [List.length_append, List.length_map, List.length_take]; omega
        obtain ⟨q1, hq1⟩ := hgr4.there (M * 5 + 1) (by rw [List.length_map, hl4]; omega)
        obtain ⟨q2, hq2⟩ := hgr4.there (M * 5 + 1 + 1) (by rw [List.length_map, hl4]; omega)
        have hfz := hgr4.free
        have hn3 : ¬ gg = wb.heap.size := by omega
        have hn3' : ¬ wb.heap.size = gg := by omega
        have hD5 := hD4.put 1 (by omega) (x' := ⟨a.1, kd, 0, [], a.2⟩) (d' := .c (.int .i64 kd)) (u := .int .i64 kd) rfl (.c _) (M * 5 + 1) (by rw [hA])
        have hD6 := hD5.put 2 (by omega) (x' := ⟨a.1, kd, 0, [], a.2⟩) (d' := .c (.int .i64 0)) (u := .int .i64 0) rfl (.c _) (M * 5 + 1 + 1) (by rw [hA])
        have HD6 : Hid (Dr w0 ((wr.setCell ⟨gg, M * 5 + 1, none⟩ (.int .i64 kd)).setCell ⟨gg, M * 5 + 1 + 1, none⟩ (.int .i64 0)) b g cap T B t1 (vars ++ (nw.take (m + 1)).map (mkTr (kd, 0)) ++ (nw.drop (m + 1)).map mkVr) (.slice (some ⟨gg, 0, none⟩) N cc)) := by
         refine ld ?_
         have e : vars ++ (nw.take (m + 1)).map (mkTr (kd, 0)) ++ (nw.drop (m + 1)).map mkVr = vars ++ List.map (mkTr (kd, 0)) (List.take m nw) ++ (⟨a.1, kd, 0, [], a.2⟩ : Gram.Var) :: List.map mkVr (List.drop (m + 1) nw) := by
          rw [List.take_add_one, List.getElem?_eq_getElem hml, ← ha]
          simp [mkTr]
         rw [e]
         exact hD6
        have hc0 : ((wr.setCell ⟨gg, M * 5 + 1, none⟩ (.int .i64 kd)).setCell ⟨gg, M * 5 + 1 + 1, none⟩ (.int .i64 0)).cell? ⟨wb.heap.size, 0, none⟩ = some (.int .i64 kd) := ((grown_set _ ⟨gg, M * 5 + 1, none⟩ _).trans (grown_set _ ⟨gg, M * 5 + 1 + 1, none⟩ _)).cell c0 (by simp; omega)
        have hc1 : ((wr.setCell ⟨gg, M * 5 + 1, none⟩ (.int .i64 kd)).setCell ⟨gg, M * 5 + 1 + 1, none⟩ (.int .i64 0)).cell? ⟨wb.heap.size, 1, none⟩ = some (.int .i64 0) := ((grown_set _ ⟨gg, M * 5 + 1, none⟩ _).trans (grown_set _ ⟨gg, M * 5 + 1 + 1, none⟩ _)).cell c1 (by simp; omega)
        have HC : Hid _ := ld (And.intro hc0 hc1)
        clear hD4 hD5 hD6 HD4 HDw hc0 hc1 hgr4 ho4 hdr ha hN2 hM hl4 hA HY
        go_wp2
        subst hfe9
        go_roundg f9
        case measure => exact Nat.lt_succ_self _
        case rel => exact ⟨M + 1, m + 1, ld (by rw [HM9.out]; omega), by omega, by simp, HC.out.1, HC.out.2, HD6⟩
   ·have bk : (yk == 1) = false := by rw [beq_eq_false_iff_ne]; exact hk
    have HE : Hid (Gram.Rf.names T f vars s = if Gram.Rf.is T [44] s2 then Gram.Rf.names T f' (vars ++ acc.map mkVr ++ [⟨nx, 0, 0, [], (ya : Int)⟩]) (Gram.Rf.adv s2) else some ((vars ++ acc.map mkVr ++ [⟨nx, 0, 0, [], (ya : Int)⟩], false), s2)) := by show _ = _; rw [HN.out, if_pos HE0.out, if_neg (fun e => hk e.1)]
    have hnc : Gram.Rf.is T [44] s2 = false := by
     have := hbad hk
     unfold Gram.Rf.is
     have e : (s2.e == 0) = false := by rw [beq_eq_false_iff_ne]; exact this
     rw [e]; rfl
    clear HN hbad hk
    go_wp2_with (first | (go_at_call 62; first | (refine (hn _ (hP.kept hg1)).mono ?_; rintro e w2 ⟨rfl, hg2⟩) | (refine (hn _ hP).mono ?_; rintro e w1 ⟨rfl, hg1⟩)) | (go_at_call 100; refine (hN _ ((hP.kept hg1).kept hg2)).mono ?_; rintro e w3 ⟨rfl, hP3, hg3⟩; refine Hid.out ?_))
    have hgA : wr.grownBy w3 (some b) := (grown_some (hg1.trans hg2) b).trans hg3
    have hD2 := HD.out.on hgA hP3
    have hDb := hD2.kept0 (ga w3 (.cells #[.string ⟨nx.toArray⟩, .int .i64 0, .int .i64 0, .slice none 0 0, .int .i64 (ya : Int)] 60) none)
    obtain ⟨xs2, ho2, hr2⟩ := hDb.gro
    rw [List.length_map, List.length_append, List.length_map] at ho2
    refine ld ?_
    go_wp2_with (at_builtin; refine wpList_append_own_at _ rfl _ _ 41 rfl B 60 it _ 5 64 Tryz.underlying41 hit hz hsz hby rfl (by decide) _ (vars.length + acc.length) xs2 rfl ho2 ⟨w3.heap.size, 0, none⟩ 1 1 [.string ⟨nx.toArray⟩, .int .i64 0, .int .i64 0, .slice none 0 0, .int .i64 (ya : Int)] rfl rfl (cell_row_new w3 [.string ⟨nx.toArray⟩, .int .i64 0, .int .i64 0, .slice none 0 0, .int .i64 (ya : Int)] 60) (by simp [Value.oneCell']) ?_ ?_ ?_ ?_)
    ·unfold maxLen; omega
    ·omega
    ·exact hDb.Bs
    intro v' w4 hown' hgrow3 _ hvb
    have hG3 : GrowD w4 B 60 5 ((vars ++ acc.map mkVr).map varD ++ [varD (mkVr (nx, (ya : Int)))]) v' := growD_snoc hgrow3 (by rw [List.length_map, List.length_append, List.length_map]; exact hown') hr2 (.cons (.c _) (.cons (.c _) (.cons (.c _) (.cons (RepC.nil _ _ _ _ _) (.cons (.c _) .nil))))) (by first | exact hvb | (rw [World.size_alloc]; exact hvb))
    have hD3 : Dr w0 w4 b g cap T B s2 (vars ++ (acc ++ [(nx, (ya : Int))]).map mkVr) v' := hDb.by hgrow3 (by
     have e : (vars ++ (acc ++ [(nx, (ya : Int))]).map mkVr).map varD = (vars ++ acc.map mkVr).map varD ++ [varD (mkVr (nx, (ya : Int)))] := by simp
     rw [e]; exact hG3)
    have eV : vars ++ acc.map mkVr ++ [(⟨nx, 0, 0, [], (ya : Int)⟩ : Gram.Var)] = vars ++ (acc ++ [(nx, (ya : Int))]).map mkVr := by simp [mkVr]
    have HE : Hid (Gram.Rf.names T f vars s = if Gram.Rf.is T [44] s2 then Gram.Rf.names T f' (vars ++ (acc ++ [(nx, (ya : Int))]).map mkVr) (Gram.Rf.adv s2) else some ((vars ++ (acc ++ [(nx, (ya : Int))]).map mkVr, false), s2)) := by show _ = _; rw [HE.out, eV]
    have hPm := hD3.pa
    have HD3 := ld hD3
    clear hG3 hD3 hown' hvb hDb hD2 hr2 ho2 eV HD
    have hMc := rmaybe_any b g cap T s2 ⟨#[44]⟩ w4 hPm
    unfold Gram.Rf.maybe at hMc
    rw [show ((⟨#[44]⟩ : ByteArray)).data.toList = [44] from rfl] at hMc
    have hsx := hnc
    rw [hsx, if_neg (by decide)] at hMc
    have HNx : Hid (Gram.Rf.names T f vars s = some ((vars ++ (acc ++ [(nx, (ya : Int))]).map mkVr, false), s2)) := by show _ = _; rw [HE.out, if_neg (by rw [hsx]; decide)]
    clear HE hn hN hfk hfa hg1 hg2 hg3 hP3 hgA hP p2
    go_wp2_with (go_at_call 102; refine hMc.mono ?_; rintro e w5 ⟨rfl, hP5, hg5⟩; refine Hid.out ?_)
    have HDx := ld (HD3.out.on hg5 hP5)
    have hlx := HDx.out.len
    have hPx := hP5
    clear HD3 hg5 hP5 hMc hPm hlf
    have HRx := ld (HR.out.trans (decl_of HNx.out))
    clear HNx
    have hTk := rtake_any b g cap T s2 ⟨#[58]⟩ _ hPx
    rw [show ((⟨#[58]⟩ : ByteArray)).data.toList = [58] from rfl] at hTk
    have hKd := fun wx (hx : Rp wx b g cap T (Gram.Rf.take T [58] s2)) => rkindm_any b g cap T (Gram.Rf.take T [58] s2) wx hx
    generalize Gram.Rf.kind T (Gram.Rf.take T [58] s2) = kk at hKd HRx
    obtain ⟨kd, t1⟩ := kk
    simp only at hKd
    refine ld ?_
    go_wp2_with (first | (go_at_call 162; refine (hKd _ hPa).mono ?_; rintro e wb ⟨rfl, hPb, hgb⟩; refine Hid.out ?_) | (go_at_call 99; refine hTk.mono ?_; rintro e wa ⟨rfl, hPa, hga⟩))
    have hDb := (HDx.out.on hga hPa).on hgb hPb
    have hvlt := hDb.gro.lt
    have hy8 : ∀ k, v'.ownBlock = some k → k < wb.heap.size := fun k e => hvlt k (by rw [e]; simp)
    have hMb := rmaybe_any b g cap T t1 ⟨#[94]⟩ _ (hPb.alloc (.cells #[.int .i64 kd, .int .i64 0] 57))
    unfold Gram.Rf.maybe at hMb
    rw [show ((⟨#[94]⟩ : ByteArray)).data.toList = [94] from rfl] at hMb
    have HDb := ld hDb
    have hblb := hPb.bl
    clear hDb hvlt hTk hKd hPa hga hgb HDx
    cases hq : Gram.Rf.is T [94] t1 with
    | true =>
     rw [hq, if_pos rfl] at hMb
     have hSz := fun wx (hx : Rp wx b g cap T (Gram.Rf.adv t1)) => rsize_any b g cap T (Gram.Rf.adv t1) wx hx
     have HRy : Hid (R = some (vars ++ (acc ++ [(nx, (ya : Int))]).map (mkTr (kd, (Gram.Rf.size T (Gram.Rf.adv t1)).1)), (Gram.Rf.size T (Gram.Rf.adv t1)).2)) := by show _ = _; rw [HRx.out]; (try simp only); rw [hq, if_pos rfl]
     clear HRx
     generalize Gram.Rf.size T (Gram.Rf.adv t1) = zz at hSz HRy
     obtain ⟨zl, t2⟩ := zz
     simp only at hSz
     have HRy : Hid (R = some (vars ++ (acc ++ [(nx, (ya : Int))]).map (mkTr (kd, zl)), t2)) := HRy
     refine ld ?_
     go_wp2_with (first | (go_at_call 163; refine (hSz _ hPc).mono ?_; rintro e wd ⟨rfl, hPd, hgd⟩; refine Hid.out ?_) | (go_at_call 102; refine hMb.mono ?_; rintro e wc ⟨rfl, hPc, hgc⟩))
     have hgcd : (wb.alloc (.cells #[.int .i64 kd, .int .i64 0] 57)).grownBy wd (some b) := hgc.trans hgd
     have hrowT : wd.heap[wb.heap.size]? = some (.cells #[.int .i64 kd, .int .i64 0] 57 (0, 0)) := (hgcd.block wb.heap.size (by simp) (by simp; omega)).trans (heap_alloc_new wb _)
     obtain ⟨z0, z1, zf⟩ := rcells_2 hrowT
     have hgbd : wb.grownBy wd (some b) := (ga wb _ (some b)).trans hgcd
     have hX := Rp.setX HDb.out.pa hgbd hPd (Nat.le_refl wb.heap.size) 1 (.int .i64 zl)
     have hDw := HDb.out.on hX.2 hX.1
     have hrowU : (wd.setCell ⟨wb.heap.size, 1, none⟩ (.int .i64 zl)).heap[wb.heap.size]? = some (.cells #[.int .i64 kd, .int .i64 zl] 57 (0, 0)) := by rw [heap_setCell_same wd wb.heap.size 1 _ _ _ hrowT]; simp
     obtain ⟨y0, y1, _⟩ := rcells_2 hrowU
     have HDw := ld hDw
     have HY := ld (And.intro y0 y1)
     clear hDw hX hgbd hgcd hMb hSz hPc hgc hPd hgd y0 y1 hrowT hrowU
     refine ld ?_
     go_wp2
     obtain ⟨nw, hnw⟩ : ∃ nw, nw = (acc ++ [(nx, (ya : Int))]) := ⟨_, rfl⟩
     rw [← hnw] at HRy HDw
     obtain ⟨N, hNe⟩ : ∃ N, N = vars.length + nw.length := ⟨_, rfl⟩
     have hlN : ∀ (ty : TypeId) (wx : World), (Builtin.len_ #[41] ty #[v']).run Tryz.prog wx = .ok (.int .i64 (N : Int)) wx := by
      have e := HDw.out.len
      rw [List.length_append, List.length_map, ← hNe] at e
      exact e
     have HNe := ld hNe
     clear hNe hlx hnw HDb
     go_loopg [12] nw.length (fun (gz : Nat) (s12 : Value) (wq : World) => ∃ (M m : Nat), Hid (M = vars.length + m) ∧ m + gz = nw.length ∧ s12 = .int .i64 (M : Int) ∧ wq.cell? ⟨wb.heap.size, 0, none⟩ = some (.int .i64 kd) ∧ wq.cell? ⟨wb.heap.size, 1, none⟩ = some (.int .i64 zl) ∧ Hid (Dr w0 wq b g cap T B t2 (vars ++ (nw.take m).map (mkTr (kd, zl)) ++ (nw.drop m).map mkVr) v'))
     case atStart => exact ⟨vars.length, 0, ld rfl, by omega, rfl, HY.out.1, HY.out.2, ld (by simpa using HDw.out)⟩
     case round =>
      obtain ⟨M, m, HM9, hm9, rfl, c0, c1, HD4⟩ := hrel
      have hN2 := HNe.out
      have hM := HM9.out
      rcases Nat.eq_zero_or_pos gk with hz1 | hz1
      ·have hnl : ¬ (M : Int) < (N : Int) := by omega
       have hme : m = nw.length := by omega
       have HD5 : Hid (Dr w0 wr b g cap T B t2 (vars ++ nw.map (mkTr (kd, zl))) v') := by
        refine ld ?_
        have e := HD4.out
        rw [hme, List.take_length, List.drop_length] at e
        simpa using e
       clear HD4 HDw hN2 hM hme hm9
       go_wp2
       go_ret
       rw [HRy.out]
       exact ⟨_, rfl, HD5.out⟩
      ·have hlt : (M : Int) < (N : Int) := by omega
       have hnn : ¬ (M : Int) < 0 := by omega
       have hml : m < nw.length := by omega
       obtain ⟨f9, hfe9⟩ : ∃ f9, gk = f9 + 1 := ⟨gk - 1, by omega⟩
       have hdr : nw.drop m = nw[m] :: nw.drop (m + 1) := List.drop_eq_getElem_cons hml
       obtain ⟨a, ha⟩ : ∃ a, a = nw[m] := ⟨_, rfl⟩
       rw [← ha] at hdr
       have hD4 := HD4.out
       rw [hdr, List.map_cons] at hD4
       have hge4 := hD4.ge
       have hgr4 := hD4.gro
       obtain ⟨xs4, ho4, _⟩ := hD4.gro
       have hl4 : (vars ++ List.map (mkTr (kd, zl)) (List.take m nw) ++ mkVr a :: List.map mkVr (List.drop (m + 1) nw)).length = N := by
        simp only [List.length_append, List.length_map, List.length_cons, List.length_take, List.length_drop]; omega
       rw [List.length_map, hl4] at ho4
       rcases ho4.2 with ⟨e4, h40⟩ | ⟨gg, cc, cur, e4, hb4, _, hncc, hccm, _⟩
       ·omega
       subst e4
       have hMb : (M : Int) + 1 < 9223372036854775808 := by unfold maxLen at hccm; omega
       have hgg : gg < wb.heap.size := hy8 gg rfl
       have hA : (vars ++ List.map (mkTr (kd, zl)) (List.take m nw)).length = M := by
        simp only [List.length_append, List.length_map, List.length_take]; omega
       obtain ⟨q1, hq1⟩ := hgr4.there (M * 5 + 1) (by rw [List.length_map, hl4]; omega)
       obtain ⟨q2, hq2⟩ := hgr4.there (M * 5 + 1 + 1) (by rw [List.length_map, hl4]; omega)
       have hfz := hgr4.free
       have hn3 : ¬ gg = wb.heap.size := by omega
       have hn3' : ¬ wb.heap.size = gg := by omega
       have hD5 := hD4.put 1 (by omega) (x' := ⟨a.1, kd, 0, [], a.2⟩) (d' := .c (.int .i64 kd)) (u := .int .i64 kd) rfl (.c _) (M * 5 + 1) (by rw [hA])
       have hD6 := hD5.put 2 (by omega) (x' := ⟨a.1, kd, zl, [], a.2⟩) (d' := .c (.int .i64 zl)) (u := .int .i64 zl) rfl (.c _) (M * 5 + 1 + 1) (by rw [hA])
       have HD6 : Hid (Dr w0 ((wr.setCell ⟨gg, M * 5 + 1, none⟩ (.int .i64 kd)).setCell ⟨gg, M * 5 + 1 + 1, none⟩ (.int .i64 zl)) b g cap T B t2 (vars ++ (nw.take (m + 1)).map (mkTr (kd, zl)) ++ (nw.drop (m + 1)).map mkVr) (.slice (some ⟨gg, 0, none⟩) N cc)) := by
        refine ld ?_
        have e : vars ++ (nw.take (m + 1)).map (mkTr (kd, zl)) ++ (nw.drop (m + 1)).map mkVr = vars ++ List.map (mkTr (kd, zl)) (List.take m nw) ++ (⟨a.1, kd, zl, [], a.2⟩ : Gram.Var) :: List.map mkVr (List.drop (m + 1) nw) := by
         rw [List.take_add_one, List.getElem?_eq_getElem hml, ← ha]
         simp [mkTr]
        rw [e]
        exact hD6
       have hc0 : ((wr.setCell ⟨gg, M * 5 + 1, none⟩ (.int .i64 kd)).setCell ⟨gg, M * 5 + 1 + 1, none⟩ (.int .i64 zl)).cell? ⟨wb.heap.size, 0, none⟩ = some (.int .i64 kd) := ((grown_set _ ⟨gg, M * 5 + 1, none⟩ _).trans (grown_set _ ⟨gg, M * 5 + 1 + 1, none⟩ _)).cell c0 (by simp; omega)
       have hc1 : ((wr.setCell ⟨gg, M * 5 + 1, none⟩ (.int .i64 kd)).setCell ⟨gg, M * 5 + 1 + 1, none⟩ (.int .i64 zl)).cell? ⟨wb.heap.size, 1, none⟩ = some (.int .i64 zl) := ((grown_set _ ⟨gg, M * 5 + 1, none⟩ _).trans (grown_set _ ⟨gg, M * 5 + 1 + 1, none⟩ _)).cell c1 (by simp; omega)
       have HC : Hid _ := ld (And.intro hc0 hc1)
       clear hD4 hD5 hD6 HD4 HDw hc0 hc1 hgr4 ho4 hdr ha hN2 hM hl4 hA HY
       go_wp2
       subst hfe9
       go_roundg f9
       case measure => exact Nat.lt_succ_self _
       case rel => exact ⟨M + 1, m + 1, ld (by rw [HM9.out]; omega), by omega, by simp, HC.out.1, HC.out.2, HD6⟩
    | false =>
     rw [hq, if_neg (by decide)] at hMb
     have HRy : Hid (R = some (vars ++ (acc ++ [(nx, (ya : Int))]).map (mkTr (kd, 0)), t1)) := by show _ = _; rw [HRx.out]; (try simp only); rw [hq, if_neg (by decide)]
     clear HRx
     refine ld ?_
     go_wp2_with (go_at_call 102; refine hMb.mono ?_; rintro e wc ⟨rfl, hPc, hgc⟩; refine Hid.out ?_)
     have hrowT : wc.heap[wb.heap.size]? = some (.cells #[.int .i64 kd, .int .i64 0] 57 (0, 0)) := (hgc.block wb.heap.size (by simp) (by simp; omega)).trans (heap_alloc_new wb _)
     obtain ⟨z0, z1, zf⟩ := rcells_2 hrowT
     have hDw := HDb.out.on ((ga wb _ (some b)).trans hgc) hPc
     have HDw := ld hDw
     have HY := ld (And.intro z0 z1)
     clear hDw hMb hPc hgc hrowT z0 z1 zf
     refine ld ?_
     go_wp2
     obtain ⟨nw, hnw⟩ : ∃ nw, nw = (acc ++ [(nx, (ya : Int))]) := ⟨_, rfl⟩
     rw [← hnw] at HRy HDw
     obtain ⟨N, hNe⟩ : ∃ N, N = vars.length + nw.length := ⟨_, rfl⟩
     have hlN : ∀ (ty : TypeId) (wx : World), (Builtin.len_ #[41] ty #[v']).run Tryz.prog wx = .ok (.int .i64 (N : Int)) wx := by
      have e := HDw.out.len
      rw [List.length_append, List.length_map, ← hNe] at e
      exact e
     have HNe := ld hNe
     clear hNe hlx hnw HDb
     go_loopg [12] nw.length (fun (gz : Nat) (s12 : Value) (wq : World) => ∃ (M m : Nat), Hid (M = vars.length + m) ∧ m + gz = nw.length ∧ s12 = .int .i64 (M : Int) ∧ wq.cell? ⟨wb.heap.size, 0, none⟩ = some (.int .i64 kd) ∧ wq.cell? ⟨wb.heap.size, 1, none⟩ = some (.int .i64 0) ∧ Hid (Dr w0 wq b g cap T B t1 (vars ++ (nw.take m).map (mkTr (kd, 0)) ++ (nw.drop m).map mkVr) v'))
     case atStart => exact ⟨vars.length, 0, ld rfl, by omega, rfl, HY.out.1, HY.out.2, ld (by simpa using HDw.out)⟩
     case round =>
      obtain ⟨M, m, HM9, hm9, rfl, c0, c1, HD4⟩ := hrel
      have hN2 := HNe.out
      have hM := HM9.out
      rcases Nat.eq_zero_or_pos gk with hz1 | hz1
      ·have hnl : ¬ (M : Int) < (N : Int) := by omega
       have hme : m = nw.length := by omega
       have HD5 : Hid (Dr w0 wr b g cap T B t1 (vars ++ nw.map (mkTr (kd, 0))) v') := by
        refine ld ?_
        have e := HD4.out
        rw [hme, List.take_length, List.drop_length] at e
        simpa using e
       clear HD4 HDw hN2 hM hme hm9
       go_wp2
       go_ret
       rw [HRy.out]
       exact ⟨_, rfl, HD5.out⟩
      ·have hlt : (M : Int) < (N : Int) := by omega
       have hnn : ¬ (M : Int) < 0 := by omega
       have hml : m < nw.length := by omega
       obtain ⟨f9, hfe9⟩ : ∃ f9, gk = f9 + 1 := ⟨gk - 1, by omega⟩
       have hdr : nw.drop m = nw[m] :: nw.drop (m + 1) := List.drop_eq_getElem_cons hml
       obtain ⟨a, ha⟩ : ∃ a, a = nw[m] := ⟨_, rfl⟩
       rw [← ha] at hdr
       have hD4 := HD4.out
       rw [hdr, List.map_cons] at hD4
       have hge4 := hD4.ge
       have hgr4 := hD4.gro
       obtain ⟨xs4, ho4, _⟩ := hD4.gro
       have hl4 : (vars ++ List.map (mkTr (kd, 0)) (List.take m nw) ++ mkVr a :: List.map mkVr (List.drop (m + 1) nw)).length = N := by
        simp only [List.length_append, List.length_map, List.length_cons, List.length_take, List.length_drop]; omega
       rw [List.length_map, hl4] at ho4
       rcases ho4.2 with ⟨e4, h40⟩ | ⟨gg, cc, cur, e4, hb4, _, hncc, hccm, _⟩
       ·omega
       subst e4
       have hMb : (M : Int) + 1 < 9223372036854775808 := by unfold maxLen at hccm; omega
       have hgg : gg < wb.heap.size := hy8 gg rfl
       have hA : (vars ++ List.map (mkTr (kd, 0)) (List.take m nw)).length = M := by
        simp only [List.length_append, List.length_map, List.length_take]; omega
       obtain ⟨q1, hq1⟩ := hgr4.there (M * 5 + 1) (by rw [List.length_map, hl4]; omega)
       obtain ⟨q2, hq2⟩ := hgr4.there (M * 5 + 1 + 1) (by rw [List.length_map, hl4]; omega)
       have hfz := hgr4.free
       have hn3 : ¬ gg = wb.heap.size := by omega
       have hn3' : ¬ wb.heap.size = gg := by omega
       have hD5 := hD4.put 1 (by omega) (x' := ⟨a.1, kd, 0, [], a.2⟩) (d' := .c (.int .i64 kd)) (u := .int .i64 kd) rfl (.c _) (M * 5 + 1) (by rw [hA])
       have hD6 := hD5.put 2 (by omega) (x' := ⟨a.1, kd, 0, [], a.2⟩) (d' := .c (.int .i64 0)) (u := .int .i64 0) rfl (.c _) (M * 5 + 1 + 1) (by rw [hA])
       have HD6 : Hid (Dr w0 ((wr.setCell ⟨gg, M * 5 + 1, none⟩ (.int .i64 kd)).setCell ⟨gg, M * 5 + 1 + 1, none⟩ (.int .i64 0)) b g cap T B t1 (vars ++ (nw.take (m + 1)).map (mkTr (kd, 0)) ++ (nw.drop (m + 1)).map mkVr) (.slice (some ⟨gg, 0, none⟩) N cc)) := by
        refine ld ?_
        have e : vars ++ (nw.take (m + 1)).map (mkTr (kd, 0)) ++ (nw.drop (m + 1)).map mkVr = vars ++ List.map (mkTr (kd, 0)) (List.take m nw) ++ (⟨a.1, kd, 0, [], a.2⟩ : Gram.Var) :: List.map mkVr (List.drop (m + 1) nw) := by
         rw [List.take_add_one, List.getElem?_eq_getElem hml, ← ha]
         simp [mkTr]
        rw [e]
        exact hD6
       have hc0 : ((wr.setCell ⟨gg, M * 5 + 1, none⟩ (.int .i64 kd)).setCell ⟨gg, M * 5 + 1 + 1, none⟩ (.int .i64 0)).cell? ⟨wb.heap.size, 0, none⟩ = some (.int .i64 kd) := ((grown_set _ ⟨gg, M * 5 + 1, none⟩ _).trans (grown_set _ ⟨gg, M * 5 + 1 + 1, none⟩ _)).cell c0 (by simp; omega)
       have hc1 : ((wr.setCell ⟨gg, M * 5 + 1, none⟩ (.int .i64 kd)).setCell ⟨gg, M * 5 + 1 + 1, none⟩ (.int .i64 0)).cell? ⟨wb.heap.size, 1, none⟩ = some (.int .i64 0) := ((grown_set _ ⟨gg, M * 5 + 1, none⟩ _).trans (grown_set _ ⟨gg, M * 5 + 1 + 1, none⟩ _)).cell c1 (by simp; omega)
       have HC : Hid _ := ld (And.intro hc0 hc1)
       clear hD4 hD5 hD6 HD4 HDw hc0 hc1 hgr4 ho4 hdr ha hN2 hM hl4 hA HY
       go_wp2
       subst hfe9
       go_roundg f9
       case measure => exact Nat.lt_succ_self _
       case rel => exact ⟨M + 1, m + 1, ld (by rw [HM9.out]; omega), by omega, by simp, HC.out.1, HC.out.2, HD6⟩
  ·have b0 : (s'.e == 0) = false := by rw [beq_eq_false_iff_ne]; exact he
   have HNx : Hid (Gram.Rf.names T f vars s = some ((vars ++ acc.map mkVr, false), s')) := by show _ = _; rw [HN.out, if_neg he]
   clear HN he
   generalize s'.e = e0 at p2 b0
   have HDx := HD
   have hlx := hlf
   have hPx := hP
   clear HD hlf
   have HRx := ld (HR.out.trans (decl_of HNx.out))
   clear HNx
   have hTk := rtake_any b g cap T s' ⟨#[58]⟩ _ hPx
   rw [show ((⟨#[58]⟩ : ByteArray)).data.toList = [58] from rfl] at hTk
   have hKd := fun wx (hx : Rp wx b g cap T (Gram.Rf.take T [58] s')) => rkindm_any b g cap T (Gram.Rf.take T [58] s') wx hx
   generalize Gram.Rf.kind T (Gram.Rf.take T [58] s') = kk at hKd HRx
   obtain ⟨kd, t1⟩ := kk
   simp only at hKd
   go_wp2_with (first | (go_at_call 162; refine (hKd _ hPa).mono ?_; rintro e wb ⟨rfl, hPb, hgb⟩; refine Hid.out ?_) | (go_at_call 99; refine hTk.mono ?_; rintro e wa ⟨rfl, hPa, hga⟩))
   have hDb := (HDx.out.on hga hPa).on hgb hPb
   have hvlt := hDb.gro.lt
   have hy8 : ∀ k, u1.ownBlock = some k → k < wb.heap.size := fun k e => hvlt k (by rw [e]; simp)
   have hMb := rmaybe_any b g cap T t1 ⟨#[94]⟩ _ (hPb.alloc (.cells #[.int .i64 kd, .int .i64 0] 57))
   unfold Gram.Rf.maybe at hMb
   rw [show ((⟨#[94]⟩ : ByteArray)).data.toList = [94] from rfl] at hMb
   have HDb := ld hDb
   have hblb := hPb.bl
   clear hDb hvlt hTk hKd hPa hga hgb HDx
   cases hq : Gram.Rf.is T [94] t1 with
   | true =>
    rw [hq, if_pos rfl] at hMb
    have hSz := fun wx (hx : Rp wx b g cap T (Gram.Rf.adv t1)) => rsize_any b g cap T (Gram.Rf.adv t1) wx hx
    have HRy : Hid (R = some (vars ++ (acc).map (mkTr (kd, (Gram.Rf.size T (Gram.Rf.adv t1)).1)), (Gram.Rf.size T (Gram.Rf.adv t1)).2)) := by show _ = _; rw [HRx.out]; (try simp only); rw [hq, if_pos rfl]
    clear HRx
    generalize Gram.Rf.size T (Gram.Rf.adv t1) = zz at hSz HRy
    obtain ⟨zl, t2⟩ := zz
    simp only at hSz
    have HRy : Hid (R = some (vars ++ (acc).map (mkTr (kd, zl)), t2)) := HRy
    refine ld ?_
    go_wp2_with (first | (go_at_call 163; refine (hSz _ hPc).mono ?_; rintro e wd ⟨rfl, hPd, hgd⟩; refine Hid.out ?_) | (go_at_call 102; refine hMb.mono ?_; rintro e wc ⟨rfl, hPc, hgc⟩))
    have hgcd : (wb.alloc (.cells #[.int .i64 kd, .int .i64 0] 57)).grownBy wd (some b) := hgc.trans hgd
    have hrowT : wd.heap[wb.heap.size]? = some (.cells #[.int .i64 kd, .int .i64 0] 57 (0, 0)) := (hgcd.block wb.heap.size (by simp) (by simp; omega)).trans (heap_alloc_new wb _)
    obtain ⟨z0, z1, zf⟩ := rcells_2 hrowT
    have hgbd : wb.grownBy wd (some b) := (ga wb _ (some b)).trans hgcd
    have hX := Rp.setX HDb.out.pa hgbd hPd (Nat.le_refl wb.heap.size) 1 (.int .i64 zl)
    have hDw := HDb.out.on hX.2 hX.1
    have hrowU : (wd.setCell ⟨wb.heap.size, 1, none⟩ (.int .i64 zl)).heap[wb.heap.size]? = some (.cells #[.int .i64 kd, .int .i64 zl] 57 (0, 0)) := by rw [heap_setCell_same wd wb.heap.size 1 _ _ _ hrowT]; simp
    obtain ⟨y0, y1, _⟩ := rcells_2 hrowU
    have HDw := ld hDw
    have HY := ld (And.intro y0 y1)
    clear hDw hX hgbd hgcd hMb hSz hPc hgc hPd hgd y0 y1 hrowT hrowU
    refine ld ?_
    go_wp2
    obtain ⟨nw, hnw⟩ : ∃ nw, nw = (acc) := ⟨_, rfl⟩
    rw [← hnw] at HRy HDw
    obtain ⟨N, hNe⟩ : ∃ N, N = vars.length + nw.length := ⟨_, rfl⟩
    have hlN : ∀ (ty : TypeId) (wx : World), (Builtin.len_ #[41] ty #[u1]).run Tryz.prog wx = .ok (.int .i64 (N : Int)) wx := by
     have e := HDw.out.len
     rw [List.length_append, List.length_map, ← hNe] at e
     exact e
    have HNe := ld hNe
    clear hNe hlx hnw HDb
    go_loopg [12] nw.length (fun (gz : Nat) (s12 : Value) (wq : World) => ∃ (M m : Nat), Hid (M = vars.length + m) ∧ m + gz = nw.length ∧ s12 = .int .i64 (M : Int) ∧ wq.cell? ⟨wb.heap.size, 0, none⟩ = some (.int .i64 kd) ∧ wq.cell? ⟨wb.heap.size, 1, none⟩ = some (.int .i64 zl) ∧ Hid (Dr w0 wq b g cap T B t2 (vars ++ (nw.take m).map (mkTr (kd, zl)) ++ (nw.drop m).map mkVr) u1))
    case atStart => exact ⟨vars.length, 0, ld rfl, by omega, rfl, HY.out.1, HY.out.2, ld (by simpa using HDw.out)⟩
    case round =>
     obtain ⟨M, m, HM9, hm9, rfl, c0, c1, HD4⟩ := hrel
     have hN2 := HNe.out
     have hM := HM9.out
     rcases Nat.eq_zero_or_pos gk with hz1 | hz1
     ·have hnl : ¬ (M : Int) < (N : Int) := by omega
      have hme : m = nw.length := by omega
      have HD5 : Hid (Dr w0 wr b g cap T B t2 (vars ++ nw.map (mkTr (kd, zl))) u1) := by
       refine ld ?_
       have e := HD4.out
       rw [hme, List.take_length, List.drop_length] at e
       simpa using e
      clear HD4 HDw hN2 hM hme hm9
      go_wp2
      go_ret
      rw [HRy.out]
      exact ⟨_, rfl, HD5.out⟩
     ·have hlt : (M : Int) < (N : Int) := by omega
      have hnn : ¬ (M : Int) < 0 := by omega
      have hml : m < nw.length := by omega
      obtain ⟨f9, hfe9⟩ : ∃ f9, gk = f9 + 1 := ⟨gk - 1, by omega⟩
      have hdr : nw.drop m = nw[m] :: nw.drop (m + 1) := List.drop_eq_getElem_cons hml
      obtain ⟨a, ha⟩ : ∃ a, a = nw[m] := ⟨_, rfl⟩
      rw [← ha] at hdr
      have hD4 := HD4.out
      rw [hdr, List.map_cons] at hD4
      have hge4 := hD4.ge
      have hgr4 := hD4.gro
      obtain ⟨xs4, ho4, _⟩ := hD4.gro
      have hl4 : (vars ++ List.map (mkTr (kd, zl)) (List.take m nw) ++ mkVr a :: List.map mkVr (List.drop (m + 1) nw)).length = N := by
       simp only [List.length_append, List.length_map, List.length_cons, List.length_take, List.length_drop]; omega
      rw [List.length_map, hl4] at ho4
      rcases ho4.2 with ⟨e4, h40⟩ | ⟨gg, cc, cur, e4, hb4, _, hncc, hccm, _⟩
      ·omega
      subst e4
      have hMb : (M : Int) + 1 < 9223372036854775808 := by unfold maxLen at hccm; omega
      have hgg : gg < wb.heap.size := hy8 gg rfl
      have hA : (vars ++ List.map (mkTr (kd, zl)) (List.take m nw)).length = M := by
       simp only [List.length_append, List.length_map, List.length_take]; omega
      obtain ⟨q1, hq1⟩ := hgr4.there (M * 5 + 1) (by rw [List.length_map, hl4]; omega)
      obtain ⟨q2, hq2⟩ := hgr4.there (M * 5 + 1 + 1) (by rw [List.length_map, hl4]; omega)
      have hfz := hgr4.free
      have hn3 : ¬ gg = wb.heap.size := by omega
      have hn3' : ¬ wb.heap.size = gg := by omega
      have hD5 := hD4.put 1 (by omega) (x' := ⟨a.1, kd, 0, [], a.2⟩) (d' := .c (.int .i64 kd)) (u := .int .i64 kd) rfl (.c _) (M * 5 + 1) (by rw [hA])
      have hD6 := hD5.put 2 (by omega) (x' := ⟨a.1, kd, zl, [], a.2⟩) (d' := .c (.int .i64 zl)) (u := .int .i64 zl) rfl (.c _) (M * 5 + 1 + 1) (by rw [hA])
      have HD6 : Hid (Dr w0 ((wr.setCell ⟨gg, M * 5 + 1, none⟩ (.int .i64 kd)).setCell ⟨gg, M * 5 + 1 + 1, none⟩ (.int .i64 zl)) b g cap T B t2 (vars ++ (nw.take (m + 1)).map (mkTr (kd, zl)) ++ (nw.drop (m + 1)).map mkVr) (.slice (some ⟨gg, 0, none⟩) N cc)) := by
       refine ld ?_
       have e : vars ++ (nw.take (m + 1)).map (mkTr (kd, zl)) ++ (nw.drop (m + 1)).map mkVr = vars ++ List.map (mkTr (kd, zl)) (List.take m nw) ++ (⟨a.1, kd, zl, [], a.2⟩ : Gram.Var) :: List.map mkVr (List.drop (m + 1) nw) := by
        rw [List.take_add_one, List.getElem?_eq_getElem hml, ← ha]
        simp [mkTr]
       rw [e]
       exact hD6
      have hc0 : ((wr.setCell ⟨gg, M * 5 + 1, none⟩ (.int .i64 kd)).setCell ⟨gg, M * 5 + 1 + 1, none⟩ (.int .i64 zl)).cell? ⟨wb.heap.size, 0, none⟩ = some (.int .i64 kd) := ((grown_set _ ⟨gg, M * 5 + 1, none⟩ _).trans (grown_set _ ⟨gg, M * 5 + 1 + 1, none⟩ _)).cell c0 (by simp; omega)
      have hc1 : ((wr.setCell ⟨gg, M * 5 + 1, none⟩ (.int .i64 kd)).setCell ⟨gg, M * 5 + 1 + 1, none⟩ (.int .i64 zl)).cell? ⟨wb.heap.size, 1, none⟩ = some (.int .i64 zl) := ((grown_set _ ⟨gg, M * 5 + 1, none⟩ _).trans (grown_set _ ⟨gg, M * 5 + 1 + 1, none⟩ _)).cell c1 (by simp; omega)
      have HC : Hid _ := ld (And.intro hc0 hc1)
      clear hD4 hD5 hD6 HD4 HDw hc0 hc1 hgr4 ho4 hdr ha hN2 hM hl4 hA HY
      go_wp2
      subst hfe9
      go_roundg f9
      case measure => exact Nat.lt_succ_self _
      case rel => exact ⟨M + 1, m + 1, ld (by rw [HM9.out]; omega), by omega, by simp, HC.out.1, HC.out.2, HD6⟩
   | false =>
    rw [hq, if_neg (by decide)] at hMb
    have HRy : Hid (R = some (vars ++ (acc).map (mkTr (kd, 0)), t1)) := by show _ = _; rw [HRx.out]; (try simp only); rw [hq, if_neg (by decide)]
    clear HRx
    refine ld ?_
    go_wp2_with (go_at_call 102; refine hMb.mono ?_; rintro e wc ⟨rfl, hPc, hgc⟩; refine Hid.out ?_)
    have hrowT : wc.heap[wb.heap.size]? = some (.cells #[.int .i64 kd, .int .i64 0] 57 (0, 0)) := (hgc.block wb.heap.size (by simp) (by simp; omega)).trans (heap_alloc_new wb _)
    obtain ⟨z0, z1, zf⟩ := rcells_2 hrowT
    have hDw := HDb.out.on ((ga wb _ (some b)).trans hgc) hPc
    have HDw := ld hDw
    have HY := ld (And.intro z0 z1)
    clear hDw hMb hPc hgc hrowT z0 z1 zf
    refine ld ?_
    go_wp2
    obtain ⟨nw, hnw⟩ : ∃ nw, nw = (acc) := ⟨_, rfl⟩
    rw [← hnw] at HRy HDw
    obtain ⟨N, hNe⟩ : ∃ N, N = vars.length + nw.length := ⟨_, rfl⟩
    have hlN : ∀ (ty : TypeId) (wx : World), (Builtin.len_ #[41] ty #[u1]).run Tryz.prog wx = .ok (.int .i64 (N : Int)) wx := by
     have e := HDw.out.len
     rw [List.length_append, List.length_map, ← hNe] at e
     exact e
    have HNe := ld hNe
    clear hNe hlx hnw HDb
    go_loopg [12] nw.length (fun (gz : Nat) (s12 : Value) (wq : World) => ∃ (M m : Nat), Hid (M = vars.length + m) ∧ m + gz = nw.length ∧ s12 = .int .i64 (M : Int) ∧ wq.cell? ⟨wb.heap.size, 0, none⟩ = some (.int .i64 kd) ∧ wq.cell? ⟨wb.heap.size, 1, none⟩ = some (.int .i64 0) ∧ Hid (Dr w0 wq b g cap T B t1 (vars ++ (nw.take m).map (mkTr (kd, 0)) ++ (nw.drop m).map mkVr) u1))
    case atStart => exact ⟨vars.length, 0, ld rfl, by omega, rfl, HY.out.1, HY.out.2, ld (by simpa using HDw.out)⟩
    case round =>
     obtain ⟨M, m, HM9, hm9, rfl, c0, c1, HD4⟩ := hrel
     have hN2 := HNe.out
     have hM := HM9.out
     rcases Nat.eq_zero_or_pos gk with hz1 | hz1
     ·have hnl : ¬ (M : Int) < (N : Int) := by omega
      have hme : m = nw.length := by omega
      have HD5 : Hid (Dr w0 wr b g cap T B t1 (vars ++ nw.map (mkTr (kd, 0))) u1) := by
       refine ld ?_
       have e := HD4.out
       rw [hme, List.take_length, List.drop_length] at e
       simpa using e
      clear HD4 HDw hN2 hM hme hm9
      go_wp2
      go_ret
      rw [HRy.out]
      exact ⟨_, rfl, HD5.out⟩
     ·have hlt : (M : Int) < (N : Int) := by omega
      have hnn : ¬ (M : Int) < 0 := by omega
      have hml : m < nw.length := by omega
      obtain ⟨f9, hfe9⟩ : ∃ f9, gk = f9 + 1 := ⟨gk - 1, by omega⟩
      have hdr : nw.drop m = nw[m] :: nw.drop (m + 1) := List.drop_eq_getElem_cons hml
      obtain ⟨a, ha⟩ : ∃ a, a = nw[m] := ⟨_, rfl⟩
      rw [← ha] at hdr
      have hD4 := HD4.out
      rw [hdr, List.map_cons] at hD4
      have hge4 := hD4.ge
      have hgr4 := hD4.gro
      obtain ⟨xs4, ho4, _⟩ := hD4.gro
      have hl4 : (vars ++ List.map (mkTr (kd, 0)) (List.take m nw) ++ mkVr a :: List.map mkVr (List.drop (m + 1) nw)).length = N := by
       simp only [List.length_append, List.length_map, List.length_cons, List.length_take, List.length_drop]; omega
      rw [List.length_map, hl4] at ho4
      rcases ho4.2 with ⟨e4, h40⟩ | ⟨gg, cc, cur, e4, hb4, _, hncc, hccm, _⟩
      ·omega
      subst e4
      have hMb : (M : Int) + 1 < 9223372036854775808 := by unfold maxLen at hccm; omega
      have hgg : gg < wb.heap.size := hy8 gg rfl
      have hA : (vars ++ List.map (mkTr (kd, 0)) (List.take m nw)).length = M := by
       simp only [List.length_append, List.length_map, List.length_take]; omega
      obtain ⟨q1, hq1⟩ := hgr4.there (M * 5 + 1) (by rw [List.length_map, hl4]; omega)
      obtain ⟨q2, hq2⟩ := hgr4.there (M * 5 + 1 + 1) (by rw [List.length_map, hl4]; omega)
      have hfz := hgr4.free
      have hn3 : ¬ gg = wb.heap.size := by omega
      have hn3' : ¬ wb.heap.size = gg := by omega
      have hD5 := hD4.put 1 (by omega) (x' := ⟨a.1, kd, 0, [], a.2⟩) (d' := .c (.int .i64 kd)) (u := .int .i64 kd) rfl (.c _) (M * 5 + 1) (by rw [hA])
      have hD6 := hD5.put 2 (by omega) (x' := ⟨a.1, kd, 0, [], a.2⟩) (d' := .c (.int .i64 0)) (u := .int .i64 0) rfl (.c _) (M * 5 + 1 + 1) (by rw [hA])
      have HD6 : Hid (Dr w0 ((wr.setCell ⟨gg, M * 5 + 1, none⟩ (.int .i64 kd)).setCell ⟨gg, M * 5 + 1 + 1, none⟩ (.int .i64 0)) b g cap T B t1 (vars ++ (nw.take (m + 1)).map (mkTr (kd, 0)) ++ (nw.drop (m + 1)).map mkVr) (.slice (some ⟨gg, 0, none⟩) N cc)) := by
       refine ld ?_
       have e : vars ++ (nw.take (m + 1)).map (mkTr (kd, 0)) ++ (nw.drop (m + 1)).map mkVr = vars ++ List.map (mkTr (kd, 0)) (List.take m nw) ++ (⟨a.1, kd, 0, [], a.2⟩ : Gram.Var) :: List.map mkVr (List.drop (m + 1) nw) := by
        rw [List.take_add_one, List.getElem?_eq_getElem hml, ← ha]
        simp [mkTr]
       rw [e]
       exact hD6
      have hc0 : ((wr.setCell ⟨gg, M * 5 + 1, none⟩ (.int .i64 kd)).setCell ⟨gg, M * 5 + 1 + 1, none⟩ (.int .i64 0)).cell? ⟨wb.heap.size, 0, none⟩ = some (.int .i64 kd) := ((grown_set _ ⟨gg, M * 5 + 1, none⟩ _).trans (grown_set _ ⟨gg, M * 5 + 1 + 1, none⟩ _)).cell c0 (by simp; omega)
      have hc1 : ((wr.setCell ⟨gg, M * 5 + 1, none⟩ (.int .i64 kd)).setCell ⟨gg, M * 5 + 1 + 1, none⟩ (.int .i64 0)).cell? ⟨wb.heap.size, 1, none⟩ = some (.int .i64 0) := ((grown_set _ ⟨gg, M * 5 + 1, none⟩ _).trans (grown_set _ ⟨gg, M * 5 + 1 + 1, none⟩ _)).cell c1 (by simp; omega)
      have HC : Hid _ := ld (And.intro hc0 hc1)
      clear hD4 hD5 hD6 HD4 HDw hc0 hc1 hgr4 ho4 hdr ha hN2 hM hl4 hA HY
      go_wp2
      subst hfe9
      go_roundg f9
      case measure => exact Nat.lt_succ_self _
      case rel => exact ⟨M + 1, m + 1, ld (by rw [HM9.out]; omega), by omega, by simp, HC.out.1, HC.out.2, HD6⟩
end
namespace Gram.Rf
theorem fail_e {T : List Lex.Tk} {c : Int} {s : St} (hc : c ≠ 0) : (fail T c s).e ≠ 0 := by
 unfold fail
 by_cases h : s.e = 0
 ·rw [if_pos h]; exact hc
 ·rw [if_neg h]; exact h
theorem name_e {T : List Lex.Tk} {s : St} (h : (name T s).2.e = 0) : s.e = 0 ∧ (tk T s.i).kind = 1 := by
 unfold name at h
 cases hk : nameOk T s with
 | true => unfold nameOk at hk; simp at hk; exact hk
 | false => rw [hk, if_neg (by decide)] at h; exact absurd h (fail_e (by decide))
theorem take_e {T : List Lex.Tk} {w : B} {s : St} (h : (take T w s).e = 0) : s.e = 0 := by
 unfold take at h
 cases hk : is T w s with
 | true => rw [hk, if_pos rfl] at h; exact h
 | false => rw [hk, if_neg (by decide)] at h; exact absurd h (fail_e (by decide))
theorem kind_e {T : List Lex.Tk} {s : St} (h : (kind T s).2.e = 0) : s.e = 0 := by
 unfold kind at h
 cases hk : kindOk T s with
 | true => rw [hk, if_pos rfl] at h; exact h
 | false => rw [hk, if_neg (by decide)] at h; exact absurd h (fail_e (by decide))
theorem size_e {T : List Lex.Tk} {s : St} (h : (size T s).2.e = 0) : s.e = 0 := by
 unfold size at h
 cases hk : sizeOk T s with
 | true => rw [hk, if_pos rfl] at h; exact h
 | false => rw [hk, if_neg (by decide)] at h; exact absurd h (fail_e (by decide))
theorem names_len {T : List Lex.Tk} : ∀ {f : Nat} {l : List Var} {s : St} {l' : List Var} {q : Bool} {s' : St}, names T f l s = some ((l', q), s') → l.length ≤ 201 → (s.e = 0 → l.length ≤ 200) → l'.length ≤ 201 ∧ (s'.e = 0 → l'.length ≤ 200) ∧ ∃ n, l' = l ++ n
 | 0, _, _, _, _, _, h, _, _ => by rw [names] at h; cases h
 | f + 1, l, s, l', q, s', h, h1, h0 => by
  rw [names] at h
  by_cases he : s.e = 0
  ·rw [if_pos he] at h
   have h0 := h0 he
   by_cases hk : (tk T s.i).kind = 1 ∧ 200 ≤ l.length
   ·rw [if_pos hk] at h; cases h; exact ⟨h1, fun e => h0, [], by simp⟩
   ·rw [if_neg hk] at h
    simp only at h
    have hn : (name T s).2.e = 0 → l.length < 200 := fun e => by
     have := (name_e e).2
     exact Nat.lt_of_not_le (fun h9 => hk ⟨this, h9⟩)
    cases hq : is T [44] (name T s).2 with
    | true =>
     rw [hq, if_pos rfl] at h
     have e0 : (name T s).2.e = 0 := by unfold is at hq; simp at hq; exact hq.1.1
     have := hn e0
     obtain ⟨g1, g2, n, g3⟩ := names_len h (by simp; omega) (fun _ => by simp; omega)
     exact ⟨g1, g2, _ :: n, by rw [g3, List.append_assoc]; rfl⟩
    | false =>
     rw [hq, if_neg (by decide)] at h
     cases h
     exact ⟨by simp; omega, fun e => by have := hn e; simp; omega, _, rfl⟩
  ·rw [if_neg he] at h; cases h; exact ⟨h1, h0, [], by simp⟩
theorem decl_len {T : List Lex.Tk} {f : Nat} {l : List Var} {s : St} {l' : List Var} {s' : St} (h : decl T f l s = some (l', s')) (h1 : l.length ≤ 201) (h0 : s.e = 0 → l.length ≤ 200) : l'.length ≤ 201 ∧ (s'.e = 0 → l'.length ≤ 200) ∧ ∃ n, l' = l ++ n := by
 unfold decl at h
 cases hn : names T f l s with
 | none => rw [hn] at h; cases h
 | some r =>
  obtain ⟨⟨l1, q⟩, t⟩ := r
  rw [hn] at h
  obtain ⟨g1, g2, n, g3⟩ := names_len hn h1 h0
  simp only [bindS] at h
  cases q with
  | true => rw [if_pos rfl] at h; cases h; exact ⟨g1, g2, n, g3⟩
  | false =>
   rw [if_neg (by decide)] at h
   have ht : s'.e = 0 → t.e = 0 := by
    intro e
    cases h
    cases hq : is T [94] (kind T (take T [58] t)).2 with
    | true => rw [hq, if_pos rfl] at e; have e9 := size_e e; exact take_e (kind_e e9)
    | false => rw [hq, if_neg (by decide)] at e; exact take_e (kind_e e)
   have hl : ∃ m, l' = l ++ m ∧ m.length = n.length := by
    have h9 := h
    rw [g3, List.take_left, List.drop_left] at h9
    cases h9
    exact ⟨_, rfl, by simp⟩
   obtain ⟨m, hm, hmn⟩ := hl
   have : l'.length = l1.length := by rw [hm, g3]; simp [hmn]
   exact ⟨by omega, fun e => by have := g2 (ht e); omega, m, hm⟩
end Gram.Rf
section
variable (b g cap : Nat) (T : List Lex.Tk)
theorem rdecls_any (f : Nat) (s : Gram.Rf.St) (w : World) (h : Rp w b g cap T s) (hf : (Gram.Rf.decls T f s).isSome = true) :
  Calls Tryz.prog 101 #[.pointer (some ⟨b, 0, none⟩)] w fun e w' => rlPost varD 60 5 w b g cap T (Gram.Rf.decls T f s) e w' := by
 have hbw := h.bl
 have hD0 : Dr w w b g cap T w.heap.size s [] (.slice none 0 0) := ⟨⟨s, h⟩, h, World.grownBy.refl _ _, Nat.le_refl _, Nat.le_refl _, GrowD.nil _ _ _ _⟩
 obtain ⟨R, hR⟩ : ∃ R, R = Gram.Rf.decls T f s := ⟨_, rfl⟩
 rw [← hR] at hf ⊢
 unfold Gram.Rf.decls at hR
 cases hd : Gram.Rf.decl T f [] s with
 | none => rw [hR, hd] at hf; cases hf
 | some r =>
 obtain ⟨l0, s0⟩ := r
 have hc := rdecl_any b g cap T f w w w.heap.size s [] (.slice none 0 0) hD0 (by simp) (by simp) (by rw [hd]; rfl)
 simp only [hd, drPost] at hc
 obtain ⟨l1, l2, _⟩ := Gram.Rf.decl_len hd (by simp) (by simp)
 have HR : Hid (R = Gram.Rf.declsL T f l0 s0) := by show _ = _; rw [hR, hd]; rfl
 clear hR hd h hD0
 go_enter Tryz.func101, Tryz.ntmps101
 go_wp2_with (go_at_call 132; refine hc.mono ?_; rintro e w1 ⟨v1, rfl, hD1⟩; refine Hid.out ?_)
 have HD1 := ld hD1
 clear hD1 hc
 refine ld ?_
 go_wp2
 go_loopg [3] f (fun (f' : Nat) (s3 : Value) (wr : World) => ∃ (l : List Gram.Var) (s' : Gram.Rf.St), f' ≤ f ∧ l.length ≤ 201 ∧ (s'.e = 0 → l.length ≤ 200) ∧ Hid (Dr w wr b g cap T w.heap.size s' l s3 ∧ R = Gram.Rf.declsL T f' l s'))
 case atStart => exact ⟨l0, s0, Nat.le_refl _, l1, l2, ld ⟨HD1.out, HR.out⟩⟩
 case round =>
  obtain ⟨l, s', hff, ha1, ha0, HG⟩ := hrel
  obtain ⟨hD, hL⟩ := HG.out
  clear HG HD1 l1 l2 HR
  have hP := hD.pa
  have p2 := hP.st.c2
  have HD := ld hD
  clear hD
  rcases Nat.eq_zero_or_pos gk with hz0 | hz0
  ·rw [hz0] at hL; rw [hL] at hf; exact absurd hf (by simp [Gram.Rf.declsL])
  obtain ⟨f', hfe⟩ : ∃ f', gk = f' + 1 := ⟨gk - 1, by omega⟩
  subst hfe
  rw [Gram.Rf.declsL] at hL
  by_cases he : s'.e = 0
  ·have b0 : (s'.e == 0) = true := by rw [beq_iff_eq]; exact he
   have ha0 := ha0 he
   have hMc := rmaybe_any b g cap T s' ⟨#[59]⟩ wr hP
   unfold Gram.Rf.maybe at hMc
   rw [show ((⟨#[59]⟩ : ByteArray)).data.toList = [59] from rfl] at hMc
   cases hq : Gram.Rf.is T [59] s' with
   | false =>
    rw [hq, if_neg (by decide)] at hMc
    have HE : Hid (R = some (l, s')) := by show _ = _; rw [hL, if_neg (by rw [hq]; simp)]
    clear hL he hf
    generalize s'.e = e0 at p2 b0
    go_wp2_with (go_at_call 102; refine hMc.mono ?_; rintro e w2 ⟨rfl, hP2, hg2⟩)
    go_ret
    rw [HE.out]
    have hZ := HD.out.on hg2 hP2
    exact ⟨_, rfl, hZ.gro, hZ.pa, hZ.gr⟩
   | true =>
    rw [hq, if_pos rfl] at hMc
    rw [if_pos ⟨he, hq⟩] at hL
    cases hd : Gram.Rf.decl T f' l (Gram.Rf.adv s') with
    | none => rw [hL, hd] at hf; cases hf
    | some r =>
    obtain ⟨l3, s3⟩ := r
    have HE : Hid (R = Gram.Rf.declsL T f' l3 s3) := by show _ = _; rw [hL, hd]; rfl
    have hc := fun wx (hx : Dr w wx b g cap T w.heap.size (Gram.Rf.adv s') l u3) => rdecl_any b g cap T f' w wx w.heap.size (Gram.Rf.adv s') l u3 hx ha1 (fun _ => ha0) (by rw [hd]; rfl)
    simp only [hd, drPost] at hc
    obtain ⟨l4, l5, _⟩ := Gram.Rf.decl_len hd ha1 (fun _ => ha0)
    clear hL he hf hd
    generalize s'.e = e0 at p2 b0
    go_wp2_with (first | (go_at_call 132; refine (hc _ (HD.out.on hg2 hP2)).mono ?_; rintro e w3 ⟨v3, rfl, hD3⟩) | (go_at_call 102; refine hMc.mono ?_; rintro e w2 ⟨rfl, hP2, hg2⟩))
    go_roundg f'
    case measure => exact Nat.lt_succ_self _
    case rel => exact ⟨l3, s3, by omega, l4, l5, ld ⟨hD3, HE.out⟩⟩
  ·have b0 : (s'.e == 0) = false := by rw [beq_eq_false_iff_ne]; exact he
   have HE : Hid (R = some (l, s')) := by show _ = _; rw [hL, if_neg (fun e => he e.1)]
   clear hL he hf
   generalize s'.e = e0 at p2 b0
   go_wp2
   go_ret
   rw [HE.out]
   exact ⟨_, rfl, HD.out.gro, HD.out.pa, HD.out.gr⟩
end
def rnod0 : Obj := .cells #[.string ⟨#[]⟩, .slice none 0 0, .slice none 0 0, .slice none 0 0, .slice none 0 0, .int .i64 0] 44
section
variable (b g cap : Nat) (T : List Lex.Tk)
end
def ritm0 : Obj := .cells #[.slice none 0 0, .int .i64 0, .int .i64 0, .string ⟨#[]⟩, .int .i64 0, .int .i64 0, .int .i64 0, .int .i64 0, .slice none 0 0, .int .i64 0, .slice none 0 0, .int .i64 0] 88
section
variable (b g cap : Nat) (T : List Lex.Tk)
theorem ritem_plain (f : Nat) (s : Gram.Rf.St) (w : World) (h : Rp w b g cap T s) (qa : Gram.Rf.is T [97, 117, 116, 111, 109, 97, 116, 111, 110] s = false) (qb : Gram.Rf.is T [40] s = false) (hf : (Gram.Rf.item T (f + 1) s).isSome = true) :
  Calls Tryz.prog 135 #[.pointer (some ⟨b, 0, none⟩)] w fun e w' => r1Post itemD w b g cap T (Gram.Rf.item T (f + 1) s) e w' := by
 have hbw := h.bl
 have hP0 := h.alloc ritm0
 obtain ⟨R, hR⟩ : ∃ R, R = Gram.Rf.item T (f + 1) s := ⟨_, rfl⟩
 rw [← hR] at hf ⊢
 rw [Gram.Rf.item, qa, if_neg (by decide)] at hR
 unfold Gram.Rf.equation at hR
 rw [qb, if_neg (by decide)] at hR
 have hT := rtok_any b g cap T s _ hP0
 generalize Gram.tk T s.i = y at hT hR
 obtain ⟨yk, yt, yn, yu, ya⟩ := y
 have hfd := fldAt ⟨yk, yt, yn, yu, ya⟩
 simp only [tokV] at hT hfd
 have hN := fun wx (hx : Rp wx b g cap T s) => rname_any b g cap T s wx hx
 generalize Gram.Rf.name T s = rr at hN hR
 obtain ⟨nx, t0⟩ := rr
 simp only at hN
 have HT1 : Hid (R = Gram.Rf.bindS (Gram.Rf.exp T f (Gram.Rf.take T [61] t0)) fun e s => some (.mk [nx] e [] (ya : Int), Gram.Rf.take T [59] s)) := hR
 clear hR
 have hIs := fun wx (hx : Rp wx b g cap T s) => ris_any b g cap T s ⟨#[97, 117, 116, 111, 109, 97, 116, 111, 110]⟩ wx hx
 rw [show ((⟨#[97, 117, 116, 111, 109, 97, 116, 111, 110]⟩ : ByteArray)).data.toList = [97, 117, 116, 111, 109, 97, 116, 111, 110] from rfl, qa] at hIs
 have hMb := fun wx (hx : Rp wx b g cap T s) => rmaybe_any b g cap T s ⟨#[40]⟩ wx hx
 unfold Gram.Rf.maybe at hMb
 rw [show ((⟨#[40]⟩ : ByteArray)).data.toList = [40] from rfl, qb, if_neg (by decide)] at hMb
 have HH := ld h
 clear h
 go_enter Tryz.func135, Tryz.ntmps135
 go_wp2_with (go_at_call 62; refine hT.mono ?_; rintro e w1 ⟨rfl, hg1⟩; refine Hid.out ?_)
 have hs1 := hg1.size
 have hS : Sr (w.alloc ritm0) (w1.alloc (.cells #[.slice none 0 0, .int .i64 0, .int .i64 0, .string ⟨#[]⟩, .int .i64 0, .int .i64 0, .int .i64 0, .int .i64 0, .slice none 0 0, .int .i64 0, .slice none 0 0, .int .i64 (ya : Int)] 88)) b g cap T w1.heap.size s 88 [.l 9 1 [], .c (.int .i64 0), .c (.int .i64 0), .c (.string ⟨#[]⟩), .c (.int .i64 0), .c (.int .i64 0), .c (.int .i64 0), .c (.int .i64 0), .l 85 9 [], .c (.int .i64 0), .l 95 6 [], .c (.int .i64 (ya : Int))] [.slice none 0 0, .int .i64 0, .int .i64 0, .string ⟨#[]⟩, .int .i64 0, .int .i64 0, .int .i64 0, .int .i64 0, .slice none 0 0, .int .i64 0, .slice none 0 0, .int .i64 (ya : Int)] :=
  Sr.make ⟨s, hP0⟩ ((hP0.kept hg1).alloc _) (galloc (grown_some hg1 b) _) hs1 (heap_alloc_new w1 _) (.cons (RepC.nil _ _ _ _ _) (.cons (.c _) (.cons (.c _) (.cons (.c _) (.cons (.c _) (.cons (.c _) (.cons (.c _) (.cons (.c _) (.cons (RepC.nil _ _ _ _ _) (.cons (.c _) (.cons (RepC.nil _ _ _ _ _) (.cons (.c _) .nil))))))))))))
 rw [World.size_alloc] at hs1
 clear hT hg1
 have hPq := hS.pa
 have HS := ld hS
 clear hS
 refine ld ?_
 go_wp2_with (first | (go_at_call 63; refine (hIs _ hPq).mono ?_; rintro e wi ⟨rfl, hgi⟩) | (go_at_call 102; refine (hMb _ (hPq.kept hgi)).mono ?_; rintro e wm ⟨rfl, hPm, hgm⟩) | (go_at_call 100; refine (hN _ hPm).mono ?_; rintro e w3 ⟨rfl, hP3, hg3⟩; refine Hid.out ?_))
 have hS3 := ((HS.out.kept0 hgi).on hgm hPm).on hg3 hP3
 have hql3 := hS3.ql
 have hne3 : ¬ w1.heap.size = w3.heap.size := by omega
 have hne3' : ¬ w3.heap.size = w1.heap.size := by omega
 have hS33 := hS3.kept0 (ga w3 (.cells #[.string ⟨nx.toArray⟩] 9) none)
 obtain ⟨z0, z1, z2, z3, z4, z5, z6, z7, z8, z9, z10, z11, zf⟩ := rcells_12 (show w3.heap[w1.heap.size]? = some (.cells #[.slice none 0 0, .int .i64 0, .int .i64 0, .string ⟨#[]⟩, .int .i64 0, .int .i64 0, .int .i64 0, .int .i64 0, .slice none 0 0, .int .i64 0, .slice none 0 0, .int .i64 (ya : Int)] 88 (0, 0)) from hS3.row)
 have hre : RepC (w3.alloc (.cells #[.string ⟨nx.toArray⟩] 9)) (w1.heap.size + 1) [] (.l 9 1 ([nx].map nameD)) (.slice (some ⟨w3.heap.size, 0, none⟩) 1 1) :=
  .l (xs := [.string ⟨nx.toArray⟩]) (owns_new 9 1 1 [.string ⟨nx.toArray⟩] (by omega) rfl (by unfold maxLen; omega)) (fun _ e => by cases e) (.cons (.c _) .nil)
 have hS : Sr (w.alloc ritm0) ((w3.alloc (.cells #[.string ⟨nx.toArray⟩] 9)).setCell ⟨w1.heap.size, 0, none⟩ (.slice (some ⟨w3.heap.size, 0, none⟩) 1 1)) b g cap T w1.heap.size t0 88 [.l 9 1 ([nx].map nameD), .c (.int .i64 0), .c (.int .i64 0), .c (.string ⟨#[]⟩), .c (.int .i64 0), .c (.int .i64 0), .c (.int .i64 0), .c (.int .i64 0), .l 85 9 [], .c (.int .i64 0), .l 95 6 [], .c (.int .i64 (ya : Int))] [.slice (some ⟨w3.heap.size, 0, none⟩) 1 1, .int .i64 0, .int .i64 0, .string ⟨#[]⟩, .int .i64 0, .int .i64 0, .int .i64 0, .int .i64 0, .slice none 0 0, .int .i64 0, .slice none 0 0, .int .i64 (ya : Int)] := hS33.set 0 hre
 have e9 : (w3.alloc (.cells #[.string ⟨nx.toArray⟩] 9)).setCell ⟨w1.heap.size, 0, none⟩ (.slice (some ⟨w3.heap.size, 0, none⟩) 1 1) = (w3.setCell ⟨w1.heap.size, 0, none⟩ (.slice (some ⟨w3.heap.size, 0, none⟩) 1 1)).alloc (.cells #[.string ⟨nx.toArray⟩] 9) := World.setCell_alloc_past _ _ _ _ hql3
 rw [e9] at hS
 clear hS33 hS3 hre hN e9 HS hIs hMb hPm hgm hgi hg3 hP3 hPq
 have hK := rtake_any b g cap T t0 ⟨#[61]⟩ _ hS.pa
 rw [show ((⟨#[61]⟩ : ByteArray)).data.toList = [61] from rfl] at hK
 have HS := ld hS
 clear hS
 refine ld ?_
 go_wp2_with (go_at_call 99; refine hK.mono ?_; rintro e w4 ⟨rfl, hPx, hgx⟩; refine Hid.out ?_)
 have hS4 := HS.out.on hgx hPx
 clear HS hK hPx hgx
 cases hex : Gram.Rf.exp T f (Gram.Rf.take T [61] t0) with
 | none => rw [HT1.out, hex] at hf; cases hf
 | some r =>
 obtain ⟨x, t1⟩ := r
 cases x with
 | mk f1 s1 nm1 tk1 tl1 n1 m1 ks1 a1 =>
 have hc := rexp_any b g cap T f _ _ hS4.pa (by rw [hex]; rfl)
 simp only [hex, rePost, expV] at hc
 have HT2 : Hid (R = some (.mk [nx] (.mk f1 s1 nm1 tk1 tl1 n1 m1 ks1 a1) [] (ya : Int), Gram.Rf.take T [59] t1)) := by show _ = _; rw [HT1.out, hex]; rfl
 have HS4 := ld hS4
 clear hS4 HT1 hex
 refine ld ?_
 go_wp2_with (go_at_call 166; refine hc.mono ?_; rintro e w5 ⟨k5, rfl, hk5, hP5, hg5⟩; obtain ⟨ka, kn, kc, rfl⟩ := hk5.form; refine Hid.out ?_)
 have hS5 := HS4.out.on hg5 hP5
 have hql4 := HS4.out.ql
 (try clear z0 z1 z2 z3 z4 z5 z6 z7 z8 z9 z10 z11 zf)
 obtain ⟨z0, z1, z2, z3, z4, z5, z6, z7, z8, z9, z10, z11, zf⟩ := rcells_12 (show w5.heap[w1.heap.size]? = some (.cells #[.slice (some ⟨w3.heap.size, 0, none⟩) 1 1, .int .i64 0, .int .i64 0, .string ⟨#[]⟩, .int .i64 0, .int .i64 0, .int .i64 0, .int .i64 0, .slice none 0 0, .int .i64 0, .slice none 0 0, .int .i64 (ya : Int)] 88 (0, 0)) from hS5.row)
 have he5 : RepRow w5 (w1.heap.size + 1) [] [.c (.int .i64 f1), .c (.int .i64 s1), .c (.string ⟨nm1.toArray⟩), .c (.int .i64 tk1), .c (.int .i64 tl1), .c (.int .i64 n1), .c (.int .i64 m1), .l 85 9 (expsD ks1), .c (.int .i64 a1)] [.int .i64 f1, .int .i64 s1, .string ⟨nm1.toArray⟩, .int .i64 tk1, .int .i64 tl1, .int .i64 n1, .int .i64 m1, .slice ka kn kc, .int .i64 a1] := by
  have h9 := exp_row (x := (.mk f1 s1 nm1 tk1 tl1 n1 m1 ks1 a1)) (E := []) (hk5.mono (Nat.succ_le_of_lt hql4))
  simpa only [expD, expCells] using h9
 have hS6 : Sr (w.alloc ritm0) (((((((((w5.setCell ⟨w1.heap.size, 1, none⟩ (.int .i64 f1)).setCell ⟨w1.heap.size, 2, none⟩ (.int .i64 s1)).setCell ⟨w1.heap.size, 3, none⟩ (.string ⟨nm1.toArray⟩)).setCell ⟨w1.heap.size, 4, none⟩ (.int .i64 tk1)).setCell ⟨w1.heap.size, 5, none⟩ (.int .i64 tl1)).setCell ⟨w1.heap.size, 6, none⟩ (.int .i64 n1)).setCell ⟨w1.heap.size, 7, none⟩ (.int .i64 m1)).setCell ⟨w1.heap.size, 8, none⟩ (.slice ka kn kc)).setCell ⟨w1.heap.size, 9, none⟩ (.int .i64 a1)) b g cap T w1.heap.size t1 88 [.l 9 1 ([nx].map nameD), .c (.int .i64 f1), .c (.int .i64 s1), .c (.string ⟨nm1.toArray⟩), .c (.int .i64 tk1), .c (.int .i64 tl1), .c (.int .i64 n1), .c (.int .i64 m1), .l 85 9 (expsD ks1), .c (.int .i64 a1), .l 95 6 [], .c (.int .i64 (ya : Int))] [.slice (some ⟨w3.heap.size, 0, none⟩) 1 1, .int .i64 f1, .int .i64 s1, .string ⟨nm1.toArray⟩, .int .i64 tk1, .int .i64 tl1, .int .i64 n1, .int .i64 m1, .slice ka kn kc, .int .i64 a1, .slice none 0 0, .int .i64 (ya : Int)] := hS5.exp1 he5
 have hK := rtake_any b g cap T t1 ⟨#[59]⟩ _ hS6.pa
 rw [show ((⟨#[59]⟩ : ByteArray)).data.toList = [59] from rfl] at hK
 have HS6 := ld hS6
 clear hS6 hS5 he5 hc hk5 hP5 hg5
 refine ld ?_
 go_wp2_with (go_at_call 99; refine hK.mono ?_; rintro e w6 ⟨rfl, hPx, hgx⟩; refine Hid.out ?_)
 have hSE := HS6.out.on hgx hPx
 have hgA := hSE.gr
 (try clear z0 z1 z2 z3 z4 z5 z6 z7 z8 z9 z10 z11 zf)
 obtain ⟨z0, z1, z2, z3, z4, z5, z6, z7, z8, z9, z10, z11, zf⟩ := rcells_12 (show w6.heap[w1.heap.size]? = some (.cells #[.slice (some ⟨w3.heap.size, 0, none⟩) 1 1, .int .i64 f1, .int .i64 s1, .string ⟨nm1.toArray⟩, .int .i64 tk1, .int .i64 tl1, .int .i64 n1, .int .i64 m1, .slice ka kn kc, .int .i64 a1, .slice none 0 0, .int .i64 (ya : Int)] 88 (0, 0)) from hSE.row)
 have HSE := ld hSE
 clear hSE hK hPx hgx
 refine ld ?_
 go_wp2_with (with_reducible refine hold_st 2 ?_)
 refine ld ?_
 refine sg ((hgA.block w.heap.size (by simp) (by simp; omega)).trans (heap_alloc_new w ritm0)) ?_
 intro w7 hh7 hg7
 go_wp2
 (try simp only [Exit.inBlock, Exit.then])
 refine br hh7 Tryz.underlying88 ?_
 have hG : w.grownBy w7 (some b) := ((grown_some (ga w ritm0 none) b).trans hgA).andThen hg7 (fun j e => .inl (by cases e; exact Nat.le_refl _))
 obtain ⟨hkk, hss⟩ := HSE.out.ends hg7 (by simp) (by omega)
 rw [HT2.out]
 refine ⟨_, rfl, ?_, HH.out.to hG hss HSE.out.pa.lt, hG⟩
 simpa only [itemD, expD, statesD, List.cons_append, List.nil_append] using hkk
end
structure Nb (w0 w : World) (b g cap : Nat) (T : List Lex.Tk) (q : Nat) (s : Gram.Rf.St) (acc : List Gram.B) (v : Value) (ya : Int) : Prop where
 p : Rp w b g cap T s
 g' : w0.grownBy w (some b)
 row : w.heap[q]? = some (.cells #[v, .int .i64 0, .int .i64 0, .string ⟨#[]⟩, .int .i64 0, .int .i64 0, .int .i64 0, .int .i64 0, .slice none 0 0, .int .i64 0, .slice none 0 0, .int .i64 ya] 88 (0, 0))
 gro : GrowD w (q + 1) 9 1 (acc.map nameD) v
theorem Nb.ql {w0 w : World} {b g cap : Nat} {T : List Lex.Tk} {q : Nat} {s : Gram.Rf.St} {acc : List Gram.B} {v : Value} {ya : Int} (h : Nb w0 w b g cap T q s acc v ya) : q < w.heap.size := (Array.getElem?_eq_some_iff.1 h.row).1
theorem Nb.on {w0 w w' : World} {b g cap : Nat} {T : List Lex.Tk} {q : Nat} {s s' : Gram.Rf.St} {acc : List Gram.B} {v : Value} {ya : Int} (h : Nb w0 w b g cap T q s acc v ya) (hq : b < q) (hg : w.grownBy w' (some b)) (hp : Rp w' b g cap T s') : Nb w0 w' b g cap T q s' acc v ya :=
 ⟨hp, h.g'.trans hg, (hg.block q h.ql (by simp; omega)).trans h.row, h.gro.keptB hg (by omega)⟩
section
variable (b g cap : Nat) (T : List Lex.Tk)
theorem ritem_brack (f : Nat) (s : Gram.Rf.St) (w : World) (h : Rp w b g cap T s) (qa : Gram.Rf.is T [97, 117, 116, 111, 109, 97, 116, 111, 110] s = false) (qb : Gram.Rf.is T [40] s = true) (hf : (Gram.Rf.item T (f + 1) s).isSome = true) :
  Calls Tryz.prog 135 #[.pointer (some ⟨b, 0, none⟩)] w fun e w' => r1Post itemD w b g cap T (Gram.Rf.item T (f + 1) s) e w' := by
 obtain ⟨it, hit, hz, hsz, hby⟩ := infoP info_string
 have hbw := h.bl
 have hP0 := h.alloc ritm0
 have he0 := (is_kind qb).1
 obtain ⟨R, hR⟩ : ∃ R, R = Gram.Rf.item T (f + 1) s := ⟨_, rfl⟩
 rw [← hR] at hf ⊢
 rw [Gram.Rf.item, qa, if_neg (by decide)] at hR
 unfold Gram.Rf.equation at hR
 rw [qb, if_pos rfl] at hR
 have hT := rtok_any b g cap T s _ hP0
 generalize Gram.tk T s.i = y at hT hR
 obtain ⟨yk, yt, yn, yu, ya⟩ := y
 have hfd := fldAt ⟨yk, yt, yn, yu, ya⟩
 simp only [tokV] at hT hfd
 have HR := ld hR
 clear hR
 have hIs := fun wx (hx : Rp wx b g cap T s) => ris_any b g cap T s ⟨#[97, 117, 116, 111, 109, 97, 116, 111, 110]⟩ wx hx
 rw [show ((⟨#[97, 117, 116, 111, 109, 97, 116, 111, 110]⟩ : ByteArray)).data.toList = [97, 117, 116, 111, 109, 97, 116, 111, 110] from rfl, qa] at hIs
 have hMb := fun wx (hx : Rp wx b g cap T s) => rmaybe_any b g cap T s ⟨#[40]⟩ wx hx
 unfold Gram.Rf.maybe at hMb
 rw [show ((⟨#[40]⟩ : ByteArray)).data.toList = [40] from rfl, qb, if_pos rfl] at hMb
 have HH := ld h
 have HP0 := ld hP0
 clear h hP0
 go_enter Tryz.func135, Tryz.ntmps135
 go_wp2_with (go_at_call 62; refine hT.mono ?_; rintro e w1 ⟨rfl, hg1⟩; refine Hid.out ?_)
 have hs1 := hg1.size
 have hNb : Nb (w.alloc ritm0) (w1.alloc (.cells #[.slice none 0 0, .int .i64 0, .int .i64 0, .string ⟨#[]⟩, .int .i64 0, .int .i64 0, .int .i64 0, .int .i64 0, .slice none 0 0, .int .i64 0, .slice none 0 0, .int .i64 (ya : Int)] 88)) b g cap T w1.heap.size s [] (.slice none 0 0) (ya : Int) :=
  ⟨(HP0.out.kept hg1).alloc _, galloc (grown_some hg1 b) _, heap_alloc_new w1 _, GrowD.nil _ _ _ _⟩
 rw [World.size_alloc] at hs1
 clear hT hg1
 have hPq := hNb.p
 have HNb := ld hNb
 clear hNb
 have hbq : b < w1.heap.size := by omega
 refine ld ?_
 go_wp2_with (first | (go_at_call 63; refine (hIs _ hPq).mono ?_; rintro e wi ⟨rfl, hgi⟩) | (go_at_call 102; refine (hMb _ (hPq.kept hgi)).mono ?_; rintro e wm ⟨rfl, hPm, hgm⟩; refine Hid.out ?_))
 have hN1 := HNb.out.on hbq ((grown_some hgi b).trans hgm) hPm
 have HN1 := ld hN1
 clear hN1 HNb hgi hgm hPm hPq hIs hMb
 refine ld ?_
 go_wp2
 go_loopg [] f (fun (f' : Nat) (wr : World) => ∃ (acc : List Gram.B) (s' : Gram.Rf.St) (pa : Option Addr) (pn pc : Nat), f' ≤ f ∧ s'.e = 0 ∧ acc.length ≤ 16 ∧ Hid (Nb (w.alloc ritm0) wr b g cap T w1.heap.size s' acc (.slice pa pn pc) (ya : Int) ∧ Gram.Rf.lhs T f' acc s' = Gram.Rf.lhs T f [] (Gram.Rf.adv s)))
 case atStart => exact ⟨[], Gram.Rf.adv s, none, 0, 0, Nat.le_refl _, he0, by simp, ld ⟨HN1.out, rfl⟩⟩
 case round =>
  obtain ⟨acc, s', pa, pn, pc, hff, he, ha16, HG⟩ := hrel
  obtain ⟨hNb, hL⟩ := HG.out
  clear HG HN1
  rcases Nat.eq_zero_or_pos gk with hz0 | hz0
  ·rw [hz0] at hL; rw [HR.out, ← hL] at hf; exact absurd hf (by simp [Gram.Rf.lhs, Gram.Rf.bindS])
  obtain ⟨f', hfe⟩ : ∃ f', gk = f' + 1 := ⟨gk - 1, by omega⟩
  subst hfe
  rw [Gram.Rf.lhs, if_pos he] at hL
  have hP := hNb.p
  have p2 := hP.st.c2
  have b0 : (s'.e == 0) = true := by rw [beq_iff_eq]; exact he
  have hn := rtok_any b g cap T s' wr hP
  have hbad : (Gram.tk T s'.i).kind ≠ 1 → (Gram.Rf.name T s').2.e ≠ 0 := fun hk e => hk (Gram.Rf.name_e e).2
  have hNm := fun wx (hx : Rp wx b g cap T s') => rname_any b g cap T s' wx hx
  generalize Gram.tk T s'.i = y at hn hL hbad
  generalize Gram.Rf.name T s' = rr at hNm hL hbad
  obtain ⟨zk, zt, zn, zu, za⟩ := y
  obtain ⟨nx, s2⟩ := rr
  have hfk := fldKind ⟨zk, zt, zn, zu, za⟩
  simp only [tokV] at hn hfk
  simp only at hNm hbad
  have hlf : ∀ (ty : TypeId) (wx : World), (Builtin.len_ #[23] ty #[.slice pa pn pc]).run Tryz.prog wx = .ok (.int .i64 (acc.length : Int)) wx := by
   obtain ⟨xs, ho, _⟩ := hNb.gro
   rw [List.length_map] at ho
   exact fun ty wx => len_string ho ty wx
  have HL := ld hL
  have HNb := ld hNb
  clear hL hNb he
  generalize s'.e = e0 at p2 b0
  by_cases hk : zk = 1
  ·have bk : (zk == 1) = true := by rw [beq_iff_eq]; exact hk
   by_cases hm : 16 ≤ acc.length
   ·have hrm := fun wx (hx : Rp wx b g cap T s') => rfull_yes b g cap T s' (acc.length : Int) 16 (by omega) wx hx
    have HE : Hid (R = some (.mk acc Gram.zeroExp [] (ya : Int), Gram.Rf.fail T 2 s')) := by show _ = _; rw [HR.out, ← HL.out, if_pos ⟨hk, hm⟩]; rfl
    clear HL HR hbad hk hm
    go_wp2_with (go_at_call 62; refine hn.mono ?_; rintro e w2 ⟨rfl, hg2⟩; refine Hid.out ?_)
    have hN2 := HNb.out.on hbq (grown_some hg2 b) (HNb.out.p.kept hg2)
    obtain ⟨z0, z1, z2, z3, z4, z5, z6, z7, z8, z9, z10, z11, zf⟩ := rcells_12 hN2.row
    have HN2 := ld hN2
    clear hN2
    refine ld ?_
    go_wp2_with (go_at_call 65; refine (hrm _ (hP.kept hg2)).mono ?_; rintro e w3 ⟨rfl, hP3, hg3⟩; refine Hid.out ?_)
    have hN3 := HN2.out.on hbq hg3 hP3
    clear z0 z1 z2 z3 z4 z5 z6 z7 z8 z9 z10 z11 zf
    obtain ⟨z0, z1, z2, z3, z4, z5, z6, z7, z8, z9, z10, z11, zf⟩ := rcells_12 hN3.row
    have hS : Sr (w.alloc ritm0) w3 b g cap T w1.heap.size (Gram.Rf.fail T 2 s') 88 [.l 9 1 (acc.map nameD), .c (.int .i64 0), .c (.int .i64 0), .c (.string ⟨#[]⟩), .c (.int .i64 0), .c (.int .i64 0), .c (.int .i64 0), .c (.int .i64 0), .l 85 9 [], .c (.int .i64 0), .l 95 6 [], .c (.int .i64 (ya : Int))] [.slice pa pn pc, .int .i64 0, .int .i64 0, .string ⟨#[]⟩, .int .i64 0, .int .i64 0, .int .i64 0, .int .i64 0, .slice none 0 0, .int .i64 0, .slice none 0 0, .int .i64 (ya : Int)] := Sr.make ⟨s, HP0.out⟩ hP3 hN3.g' (by simp; omega) hN3.row (.cons hN3.gro.rep (.cons (.c _) (.cons (.c _) (.cons (.c _) (.cons (.c _) (.cons (.c _) (.cons (.c _) (.cons (.c _) (.cons (RepC.nil _ _ _ _ _) (.cons (.c _) (.cons (RepC.nil _ _ _ _ _) (.cons (.c _) .nil))))))))))))
    have hgA := hS.gr
    have HSE := ld hS
    clear hS hN3 HN2 hP3 hg3
    refine ld ?_
    go_wp2_with (with_reducible refine hold_st 2 ?_)
    refine ld ?_
    refine sg ((hgA.block w.heap.size (by simp) (by simp; omega)).trans (heap_alloc_new w ritm0)) ?_
    intro w7 hh7 hg7
    go_wp2
    (try simp only [Exit.inBlock, Exit.then])
    refine br hh7 Tryz.underlying88 ?_
    have hG : w.grownBy w7 (some b) := ((grown_some (ga w ritm0 none) b).trans hgA).andThen hg7 (fun j e => .inl (by cases e; exact Nat.le_refl _))
    obtain ⟨hkk, hss⟩ := HSE.out.ends hg7 (by simp) (by omega)
    rw [HE.out]
    refine ⟨_, rfl, ?_, HH.out.to hG hss HSE.out.pa.lt, hG⟩
    simpa only [itemD, Gram.zeroExp, expD, expsD, statesD, List.cons_append, List.nil_append] using hkk
   have hrm := fun wx => rfull_no b (acc.length : Int) 16 (by omega) wx
   have HE : Hid ((if Gram.Rf.is T [44] s2 then Gram.Rf.lhs T f' (acc ++ [nx]) (Gram.Rf.adv s2) else some ((acc ++ [nx], false), s2)) = Gram.Rf.lhs T f [] (Gram.Rf.adv s)) := by have e9 := HL.out; rw [if_neg (fun e => hm e.2)] at e9; exact e9
   clear HL hbad hk
   go_wp2_with (go_at_call 62; refine hn.mono ?_; rintro e w2 ⟨rfl, hg2⟩; refine Hid.out ?_)
   obtain ⟨WB, hWB⟩ : ∃ WB, WB = w2.drew := ⟨_, rfl⟩
   have hN2 := HNb.out.on hbq (grown_some hg2 b) (HNb.out.p.kept hg2)
   obtain ⟨z0, z1, z2, z3, z4, z5, z6, z7, z8, z9, z10, z11, zf⟩ := rcells_12 hN2.row
   have hNW : Nb (w.alloc ritm0) WB b g cap T w1.heap.size s' acc (.slice pa pn pc) (ya : Int) := by rw [hWB]; exact hN2.on hbq (grown_some (gdrew (World.grownBy.refl w2 none)) b) hN2.p.drew
   have hce := hNm WB hNW.p
   have HNW := ld hNW
   have hS0 : WB.cell? ⟨w1.heap.size, 0, none⟩ = some (.slice pa pn pc) := (rcells_12 hNW.row).1
   clear hNW hN2 hNm hn
   refine ld ?_
   go_wp2_with (go_at_call 65; refine (hrm _).mono ?_; rintro e w8 ⟨rfl, hw8⟩; rw [hw8]; clear hw8)
   refine wp_region_L (S := fun w' => w'.cell? ⟨w1.heap.size, 0, none⟩ = some (.slice pa pn pc)) (Z := [7]) (by kernel_rfl) ?_
   rw [← hWB]
   clear hWB z0 z1 z2 z3 z4 z5 z6 z7 z8 z9 z10 z11 zf
   refine wpL_take (i := 0) (v := .pointer (some ⟨w1.heap.size, 0, none⟩)) rfl (by kernel_rfl) (by kernel_rfl) (by kernel_rfl) (fun _ _ _ h => h) (by kernel_rfl) (.inl ⟨rfl, fun w' hw' => ?_⟩) hS0 ?_
   ·go_simp
   refine wpL_take (i := 1) (v := .slice pa pn pc) rfl (by kernel_rfl) (by kernel_rfl) (by kernel_rfl) (fun _ _ _ h => h) (by kernel_rfl) (.inl ⟨rfl, fun w' hw' => ?_⟩) hS0 ?_
   ·go_simp
   refine wpL_take (i := 2) (v := .pointer (some ⟨b, 0, none⟩)) rfl (by kernel_rfl) (by kernel_rfl) (by kernel_rfl) (fun _ _ _ h => h) (by kernel_rfl) (.inl ⟨rfl, fun w' hw' => ?_⟩) hS0 ?_
   ·go_simp
   refine wpL_one (i := 3) (by kernel_rfl) ?_
   refine wpOp_step rfl (fun K' hK => ?_)
   split
   case isFalse hno => exact absurd rfl hno
   unfold Oper.wp
   go_simp
   refine hce.mono ?_
   rintro e w8 ⟨rfl, hp8, hg8⟩
   have H8 := HNW.out.on hbq hg8 hp8
   refine hK _ _ ⟨fun _ => (rcells_12 H8.row).1, ?_⟩
   clear hK K'
   refine wpL_one (i := 4) (by kernel_rfl) ?_
   refine wpOp_step rfl (fun K' hK => ?_)
   split
   case isFalse hno => exact absurd rfl hno
   unfold Oper.wp
   go_simp
   have H9 := H8.on hbq (ga w8 (.cells #[.string ⟨nx.toArray⟩] 9) (some b)) (H8.p.alloc _)
   refine hK _ _ ⟨fun _ => (rcells_12 H9.row).1, ?_⟩
   clear hK K'
   have hql8 := H8.ql
   obtain ⟨xs2, ho2, hr2⟩ := H8.gro
   rw [List.length_map] at ho2
   refine wpL_one (i := 5) (by kernel_rfl) ?_
   refine wpOp_step rfl (fun K' hK => ?_)
   split
   case isFalse hno => exact absurd rfl hno
   refine wp_append_at _ _ 23 rfl (w1.heap.size + 1) 9 it _ 1 16 Tryz.underlying23 hit hz hsz hby rfl (by decide) (.slice pa pn pc) acc.length xs2 rfl (ho2.alloc _) ⟨w8.heap.size, 0, none⟩ 1 1 [.string ⟨nx.toArray⟩] rfl rfl (cell_row_new w8 [.string ⟨nx.toArray⟩] 9) (by simp [Value.oneCell']) ?_ ?_ ?_ ?_
   ·unfold maxLen; omega
   ·omega
   ·simp only [World.size_alloc]; omega
   intro v' w9 hown' hgrow9 _ hvb
   have hG9 : GrowD w9 (w1.heap.size + 1) 9 1 (acc.map nameD ++ [nameD nx]) v' := growD_snoc hgrow9 (by rw [List.length_map]; exact hown') (RepRow.keptX (ga w8 _ none) (fun k e => by cases e) hr2) (.cons (.c _) .nil) (by first | exact hvb | (rw [World.size_alloc] at hvb; rw [World.size_alloc]; exact hvb))
   have hG9b : (w.alloc ritm0).grownBy w9 (some b) := H9.g'.andThen hgrow9 (fun j e => .inl (by have := (ho2.lt j e).1; simp; omega))
   have hq9 : ∀ k, k ≤ w1.heap.size → some k ≠ (Value.slice pa pn pc).ownBlock := fun k hk e => by have := (ho2.lt k e.symm).1; omega
   have hP9 : Rp w9 b g cap T s2 := HP0.out.to hG9b (H9.p.st.kept hgrow9 (hq9 b (by omega))) H9.p.lt
   have hrow9 := (hgrow9.block w1.heap.size H9.ql (hq9 _ (Nat.le_refl _))).trans H9.row
   obtain ⟨va, vn, vc, rfl⟩ := hG9.form
   have hfr9 := (rcells_12 hrow9).2.2.2.2.2.2.2.2.2.2.2.2
   have hc9 := (rcells_12 hrow9).1
   refine hK _ _ ⟨fun _ => hc9, ?_⟩
   clear hK K'
   refine wpL_one (i := 6) (by kernel_rfl) ?_
   refine wpOp_step rfl (fun K' hK => ?_)
   split
   case isFalse hno => exact absurd rfl hno
   unfold Oper.wp
   go_simp
   refine hK _ _ ⟨fun _ => hc9, ?_⟩
   clear hK K'
   have hNn : Nb (w.alloc ritm0) (w9.setCell ⟨w1.heap.size, 0, none⟩ (.slice va vn vc)) b g cap T w1.heap.size s2 (acc ++ [nx]) (.slice va vn vc) (ya : Int) := by
    have hg' : (w.alloc ritm0).grownBy (w9.setCell ⟨w1.heap.size, 0, none⟩ (.slice va vn vc)) (some b) := gset hG9b (.inl (by simp; omega)) _
    refine ⟨HP0.out.to hg' (hP9.st.kept (grown_set w9 ⟨w1.heap.size, 0, none⟩ _) (by simp; omega)) hP9.lt, hg', ?_, ?_⟩
    ·rw [heap_setCell_same w9 w1.heap.size 0 _ _ _ hrow9]; simp
    ·rw [List.map_append]; exact GrowD.kept (grown_set w9 ⟨w1.heap.size, 0, none⟩ _) (fun k e => by cases e; exact Nat.lt_succ_self _) hG9
   refine wpL_one (i := 7) (by kernel_rfl) ?_
   refine wpOp_step rfl (fun K' hK => ?_)
   split
   case isFalse hno => exact absurd rfl hno
   unfold Oper.wp
   go_simp
   refine hK _ _ ⟨fun hno => absurd (by simp) hno, ?_⟩
   clear hK K'
   refine wpL_done (by kernel_rfl) ?_ _
   have hMc := rmaybe_any b g cap T s2 ⟨#[44]⟩ _ hNn.p
   unfold Gram.Rf.maybe at hMc
   rw [show ((⟨#[44]⟩ : ByteArray)).data.toList = [44] from rfl] at hMc
   have HNn := ld hNn
   clear hNn hc9 hfr9 hrow9 hP9 hG9b hG9 hgrow9 hown' hvb H9 H8 hr2 ho2 hg8 hp8 HNW hS0 hce
   cases hsx : Gram.Rf.is T [44] s2 with
   | true =>
    rw [hsx, if_pos rfl] at hMc
    have he2 := (is_kind hsx).1
    refine Hid.out ?_
    refine ld ?_
    go_wp2_with (go_at_call 102; refine hMc.mono ?_; rintro e w5 ⟨rfl, hP5, hg5⟩)
    go_roundg f'
    case measure => exact Nat.lt_succ_self _
    case rel => exact ⟨acc ++ [nx], Gram.Rf.adv s2, va, vn, vc, by omega, he2, by simp; omega, ld ⟨HNn.out.on hbq hg5 hP5, by rw [← HE.out, if_pos hsx]⟩⟩
   | false =>
    rw [hsx, if_neg (by decide)] at hMc
    have HT1 : Hid (R = Gram.Rf.bindS (Gram.Rf.exp T f (Gram.Rf.take T [61] (Gram.Rf.take T [41] s2))) fun e s => some (.mk (acc ++ [nx]) e [] (ya : Int), Gram.Rf.take T [59] s)) := by show _ = _; rw [HR.out, ← HE.out, hsx, if_neg (by decide)]; rfl
    clear HR HE
    refine Hid.out ?_
    refine ld ?_
    go_wp2_with (go_at_call 102; refine hMc.mono ?_; rintro e wk ⟨rfl, hPk, hgk⟩; refine Hid.out ?_)
    have hNk := HNn.out.on hbq hgk hPk
    have hS : Sr (w.alloc ritm0) wk b g cap T w1.heap.size s2 88 [.l 9 1 ((acc ++ [nx]).map nameD), .c (.int .i64 0), .c (.int .i64 0), .c (.string ⟨#[]⟩), .c (.int .i64 0), .c (.int .i64 0), .c (.int .i64 0), .c (.int .i64 0), .l 85 9 [], .c (.int .i64 0), .l 95 6 [], .c (.int .i64 (ya : Int))] [.slice va vn vc, .int .i64 0, .int .i64 0, .string ⟨#[]⟩, .int .i64 0, .int .i64 0, .int .i64 0, .int .i64 0, .slice none 0 0, .int .i64 0, .slice none 0 0, .int .i64 (ya : Int)] := Sr.make ⟨s, HP0.out⟩ hPk hNk.g' (by simp; omega) hNk.row (.cons hNk.gro.rep (.cons (.c _) (.cons (.c _) (.cons (.c _) (.cons (.c _) (.cons (.c _) (.cons (.c _) (.cons (.c _) (.cons (RepC.nil _ _ _ _ _) (.cons (.c _) (.cons (RepC.nil _ _ _ _ _) (.cons (.c _) .nil))))))))))))
    clear hNk HNn hPk hgk hMc
    have hKa := rtake_any b g cap T s2 ⟨#[41]⟩ _ hS.pa
    rw [show ((⟨#[41]⟩ : ByteArray)).data.toList = [41] from rfl] at hKa
    have hK := fun wx (hx : Rp wx b g cap T (Gram.Rf.take T [41] s2)) => rtake_any b g cap T (Gram.Rf.take T [41] s2) ⟨#[61]⟩ wx hx
    rw [show ((⟨#[61]⟩ : ByteArray)).data.toList = [61] from rfl] at hK
    have HS := ld hS
    clear hS
    refine ld ?_
    go_wp2_with (go_at_call 99; first | (refine (hK _ hPy).mono ?_; rintro e w4 ⟨rfl, hPx, hgx⟩; refine Hid.out ?_) | (refine hKa.mono ?_; rintro e w3 ⟨rfl, hPy, hgy⟩))
    have hS4 := (HS.out.on hgy hPy).on hgx hPx
    clear HS hK hKa hPx hgx hPy hgy
    cases hex : Gram.Rf.exp T f (Gram.Rf.take T [61] (Gram.Rf.take T [41] s2)) with
    | none => rw [HT1.out, hex] at hf; cases hf
    | some r =>
    obtain ⟨x, t1⟩ := r
    cases x with
    | mk f1 s1 nm1 tk1 tl1 n1 m1 ks1 a1 =>
    have hc := rexp_any b g cap T f _ _ hS4.pa (by rw [hex]; rfl)
    simp only [hex, rePost, expV] at hc
    have HT2 : Hid (R = some (.mk (acc ++ [nx]) (.mk f1 s1 nm1 tk1 tl1 n1 m1 ks1 a1) [] (ya : Int), Gram.Rf.take T [59] t1)) := by show _ = _; rw [HT1.out, hex]; rfl
    have HS4 := ld hS4
    clear hS4 HT1 hex
    refine ld ?_
    go_wp2_with (go_at_call 166; refine hc.mono ?_; rintro e w5 ⟨k5, rfl, hk5, hP5, hg5⟩; obtain ⟨ka, kn, kc, rfl⟩ := hk5.form; refine Hid.out ?_)
    have hS5 := HS4.out.on hg5 hP5
    have hql4 := HS4.out.ql
    obtain ⟨z0, z1, z2, z3, z4, z5, z6, z7, z8, z9, z10, z11, zf⟩ := rcells_12 (show w5.heap[w1.heap.size]? = some (.cells #[.slice va vn vc, .int .i64 0, .int .i64 0, .string ⟨#[]⟩, .int .i64 0, .int .i64 0, .int .i64 0, .int .i64 0, .slice none 0 0, .int .i64 0, .slice none 0 0, .int .i64 (ya : Int)] 88 (0, 0)) from hS5.row)
    have he5 : RepRow w5 (w1.heap.size + 1) [] [.c (.int .i64 f1), .c (.int .i64 s1), .c (.string ⟨nm1.toArray⟩), .c (.int .i64 tk1), .c (.int .i64 tl1), .c (.int .i64 n1), .c (.int .i64 m1), .l 85 9 (expsD ks1), .c (.int .i64 a1)] [.int .i64 f1, .int .i64 s1, .string ⟨nm1.toArray⟩, .int .i64 tk1, .int .i64 tl1, .int .i64 n1, .int .i64 m1, .slice ka kn kc, .int .i64 a1] := by
     have h9 := exp_row (x := (.mk f1 s1 nm1 tk1 tl1 n1 m1 ks1 a1)) (E := []) (hk5.mono (Nat.succ_le_of_lt hql4))
     simpa only [expD, expCells] using h9
    have hS6 : Sr (w.alloc ritm0) (((((((((w5.setCell ⟨w1.heap.size, 1, none⟩ (.int .i64 f1)).setCell ⟨w1.heap.size, 2, none⟩ (.int .i64 s1)).setCell ⟨w1.heap.size, 3, none⟩ (.string ⟨nm1.toArray⟩)).setCell ⟨w1.heap.size, 4, none⟩ (.int .i64 tk1)).setCell ⟨w1.heap.size, 5, none⟩ (.int .i64 tl1)).setCell ⟨w1.heap.size, 6, none⟩ (.int .i64 n1)).setCell ⟨w1.heap.size, 7, none⟩ (.int .i64 m1)).setCell ⟨w1.heap.size, 8, none⟩ (.slice ka kn kc)).setCell ⟨w1.heap.size, 9, none⟩ (.int .i64 a1)) b g cap T w1.heap.size t1 88 [.l 9 1 ((acc ++ [nx]).map nameD), .c (.int .i64 f1), .c (.int .i64 s1), .c (.string ⟨nm1.toArray⟩), .c (.int .i64 tk1), .c (.int .i64 tl1), .c (.int .i64 n1), .c (.int .i64 m1), .l 85 9 (expsD ks1), .c (.int .i64 a1), .l 95 6 [], .c (.int .i64 (ya : Int))] [.slice va vn vc, .int .i64 f1, .int .i64 s1, .string ⟨nm1.toArray⟩, .int .i64 tk1, .int .i64 tl1, .int .i64 n1, .int .i64 m1, .slice ka kn kc, .int .i64 a1, .slice none 0 0, .int .i64 (ya : Int)] := hS5.exp1 he5
    have hK := rtake_any b g cap T t1 ⟨#[59]⟩ _ hS6.pa
    rw [show ((⟨#[59]⟩ : ByteArray)).data.toList = [59] from rfl] at hK
    have HS6 := ld hS6
    clear hS6 hS5 he5 hc hk5 hP5 hg5
    refine ld ?_
    go_wp2_with (go_at_call 99; refine hK.mono ?_; rintro e w6 ⟨rfl, hPx, hgx⟩; refine Hid.out ?_)
    have hSE := HS6.out.on hgx hPx
    have hgA := hSE.gr
    (try clear z0 z1 z2 z3 z4 z5 z6 z7 z8 z9 z10 z11 zf)
    obtain ⟨z0, z1, z2, z3, z4, z5, z6, z7, z8, z9, z10, z11, zf⟩ := rcells_12 (show w6.heap[w1.heap.size]? = some (.cells #[.slice va vn vc, .int .i64 f1, .int .i64 s1, .string ⟨nm1.toArray⟩, .int .i64 tk1, .int .i64 tl1, .int .i64 n1, .int .i64 m1, .slice ka kn kc, .int .i64 a1, .slice none 0 0, .int .i64 (ya : Int)] 88 (0, 0)) from hSE.row)
    have HSE := ld hSE
    clear hSE hK hPx hgx
    refine ld ?_
    go_wp2_with (with_reducible refine hold_st 2 ?_)
    refine ld ?_
    refine sg ((hgA.block w.heap.size (by simp) (by simp; omega)).trans (heap_alloc_new w ritm0)) ?_
    intro w7 hh7 hg7
    go_wp2
    (try simp only [Exit.inBlock, Exit.then])
    refine br hh7 Tryz.underlying88 ?_
    have hG : w.grownBy w7 (some b) := ((grown_some (ga w ritm0 none) b).trans hgA).andThen hg7 (fun j e => .inl (by cases e; exact Nat.le_refl _))
    obtain ⟨hkk, hss⟩ := HSE.out.ends hg7 (by simp) (by omega)
    rw [HT2.out]
    refine ⟨_, rfl, ?_, HH.out.to hG hss HSE.out.pa.lt, hG⟩
    simpa only [itemD, expD, statesD, List.cons_append, List.nil_append] using hkk
  ·have bk : (zk == 1) = false := by rw [beq_eq_false_iff_ne]; exact hk
   have HE : Hid ((if Gram.Rf.is T [44] s2 then Gram.Rf.lhs T f' (acc ++ [nx]) (Gram.Rf.adv s2) else some ((acc ++ [nx], false), s2)) = Gram.Rf.lhs T f [] (Gram.Rf.adv s)) := by have e9 := HL.out; rw [if_neg (fun e => hk e.1)] at e9; exact e9
   have hnc : Gram.Rf.is T [44] s2 = false := by
    have := hbad hk
    unfold Gram.Rf.is
    have e : (s2.e == 0) = false := by rw [beq_eq_false_iff_ne]; exact this
    rw [e]; rfl
   clear HL hbad hk
   go_wp2_with (go_at_call 62; refine hn.mono ?_; rintro e w2 ⟨rfl, hg2⟩; refine Hid.out ?_)
   obtain ⟨WB, hWB⟩ : ∃ WB, WB = w2.drew := ⟨_, rfl⟩
   have hN2 := HNb.out.on hbq (grown_some hg2 b) (HNb.out.p.kept hg2)
   obtain ⟨z0, z1, z2, z3, z4, z5, z6, z7, z8, z9, z10, z11, zf⟩ := rcells_12 hN2.row
   have hNW : Nb (w.alloc ritm0) WB b g cap T w1.heap.size s' acc (.slice pa pn pc) (ya : Int) := by rw [hWB]; exact hN2.on hbq (grown_some (gdrew (World.grownBy.refl w2 none)) b) hN2.p.drew
   have hce := hNm WB hNW.p
   have HNW := ld hNW
   have hS0 : WB.cell? ⟨w1.heap.size, 0, none⟩ = some (.slice pa pn pc) := (rcells_12 hNW.row).1
   clear hNW hN2 hNm hn
   refine ld ?_
   go_wp2
   refine wp_region_L (S := fun w' => w'.cell? ⟨w1.heap.size, 0, none⟩ = some (.slice pa pn pc)) (Z := [7]) (by kernel_rfl) ?_
   rw [← hWB]
   clear hWB z0 z1 z2 z3 z4 z5 z6 z7 z8 z9 z10 z11 zf
   refine wpL_take (i := 0) (v := .pointer (some ⟨w1.heap.size, 0, none⟩)) rfl (by kernel_rfl) (by kernel_rfl) (by kernel_rfl) (fun _ _ _ h => h) (by kernel_rfl) (.inl ⟨rfl, fun w' hw' => ?_⟩) hS0 ?_
   ·go_simp
   refine wpL_take (i := 1) (v := .slice pa pn pc) rfl (by kernel_rfl) (by kernel_rfl) (by kernel_rfl) (fun _ _ _ h => h) (by kernel_rfl) (.inl ⟨rfl, fun w' hw' => ?_⟩) hS0 ?_
   ·go_simp
   refine wpL_take (i := 2) (v := .pointer (some ⟨b, 0, none⟩)) rfl (by kernel_rfl) (by kernel_rfl) (by kernel_rfl) (fun _ _ _ h => h) (by kernel_rfl) (.inl ⟨rfl, fun w' hw' => ?_⟩) hS0 ?_
   ·go_simp
   refine wpL_one (i := 3) (by kernel_rfl) ?_
   refine wpOp_step rfl (fun K' hK => ?_)
   split
   case isFalse hno => exact absurd rfl hno
   unfold Oper.wp
   go_simp
   refine hce.mono ?_
   rintro e w8 ⟨rfl, hp8, hg8⟩
   have H8 := HNW.out.on hbq hg8 hp8
   refine hK _ _ ⟨fun _ => (rcells_12 H8.row).1, ?_⟩
   clear hK K'
   refine wpL_one (i := 4) (by kernel_rfl) ?_
   refine wpOp_step rfl (fun K' hK => ?_)
   split
   case isFalse hno => exact absurd rfl hno
   unfold Oper.wp
   go_simp
   have H9 := H8.on hbq (ga w8 (.cells #[.string ⟨nx.toArray⟩] 9) (some b)) (H8.p.alloc _)
   refine hK _ _ ⟨fun _ => (rcells_12 H9.row).1, ?_⟩
   clear hK K'
   have hql8 := H8.ql
   obtain ⟨xs2, ho2, hr2⟩ := H8.gro
   rw [List.length_map] at ho2
   refine wpL_one (i := 5) (by kernel_rfl) ?_
   refine wpOp_step rfl (fun K' hK => ?_)
   split
   case isFalse hno => exact absurd rfl hno
   refine wp_append_at _ _ 23 rfl (w1.heap.size + 1) 9 it _ 1 16 Tryz.underlying23 hit hz hsz hby rfl (by decide) (.slice pa pn pc) acc.length xs2 rfl (ho2.alloc _) ⟨w8.heap.size, 0, none⟩ 1 1 [.string ⟨nx.toArray⟩] rfl rfl (cell_row_new w8 [.string ⟨nx.toArray⟩] 9) (by simp [Value.oneCell']) ?_ ?_ ?_ ?_
   ·unfold maxLen; omega
   ·omega
   ·simp only [World.size_alloc]; omega
   intro v' w9 hown' hgrow9 _ hvb
   have hG9 : GrowD w9 (w1.heap.size + 1) 9 1 (acc.map nameD ++ [nameD nx]) v' := growD_snoc hgrow9 (by rw [List.length_map]; exact hown') (RepRow.keptX (ga w8 _ none) (fun k e => by cases e) hr2) (.cons (.c _) .nil) (by first | exact hvb | (rw [World.size_alloc] at hvb; rw [World.size_alloc]; exact hvb))
   have hG9b : (w.alloc ritm0).grownBy w9 (some b) := H9.g'.andThen hgrow9 (fun j e => .inl (by have := (ho2.lt j e).1; simp; omega))
   have hq9 : ∀ k, k ≤ w1.heap.size → some k ≠ (Value.slice pa pn pc).ownBlock := fun k hk e => by have := (ho2.lt k e.symm).1; omega
   have hP9 : Rp w9 b g cap T s2 := HP0.out.to hG9b (H9.p.st.kept hgrow9 (hq9 b (by omega))) H9.p.lt
   have hrow9 := (hgrow9.block w1.heap.size H9.ql (hq9 _ (Nat.le_refl _))).trans H9.row
   obtain ⟨va, vn, vc, rfl⟩ := hG9.form
   have hfr9 := (rcells_12 hrow9).2.2.2.2.2.2.2.2.2.2.2.2
   have hc9 := (rcells_12 hrow9).1
   refine hK _ _ ⟨fun _ => hc9, ?_⟩
   clear hK K'
   refine wpL_one (i := 6) (by kernel_rfl) ?_
   refine wpOp_step rfl (fun K' hK => ?_)
   split
   case isFalse hno => exact absurd rfl hno
   unfold Oper.wp
   go_simp
   refine hK _ _ ⟨fun _ => hc9, ?_⟩
   clear hK K'
   have hNn : Nb (w.alloc ritm0) (w9.setCell ⟨w1.heap.size, 0, none⟩ (.slice va vn vc)) b g cap T w1.heap.size s2 (acc ++ [nx]) (.slice va vn vc) (ya : Int) := by
    have hg' : (w.alloc ritm0).grownBy (w9.setCell ⟨w1.heap.size, 0, none⟩ (.slice va vn vc)) (some b) := gset hG9b (.inl (by simp; omega)) _
    refine ⟨HP0.out.to hg' (hP9.st.kept (grown_set w9 ⟨w1.heap.size, 0, none⟩ _) (by simp; omega)) hP9.lt, hg', ?_, ?_⟩
    ·rw [heap_setCell_same w9 w1.heap.size 0 _ _ _ hrow9]; simp
    ·rw [List.map_append]; exact GrowD.kept (grown_set w9 ⟨w1.heap.size, 0, none⟩ _) (fun k e => by cases e; exact Nat.lt_succ_self _) hG9
   refine wpL_one (i := 7) (by kernel_rfl) ?_
   refine wpOp_step rfl (fun K' hK => ?_)
   split
   case isFalse hno => exact absurd rfl hno
   unfold Oper.wp
   go_simp
   refine hK _ _ ⟨fun hno => absurd (by simp) hno, ?_⟩
   clear hK K'
   refine wpL_done (by kernel_rfl) ?_ _
   have hMc := rmaybe_any b g cap T s2 ⟨#[44]⟩ _ hNn.p
   unfold Gram.Rf.maybe at hMc
   rw [show ((⟨#[44]⟩ : ByteArray)).data.toList = [44] from rfl] at hMc
   have HNn := ld hNn
   clear hNn hc9 hfr9 hrow9 hP9 hG9b hG9 hgrow9 hown' hvb H9 H8 hr2 ho2 hg8 hp8 HNW hS0 hce
   have hsx := hnc
   rw [hsx, if_neg (by decide)] at hMc
   have HT1 : Hid (R = Gram.Rf.bindS (Gram.Rf.exp T f (Gram.Rf.take T [61] (Gram.Rf.take T [41] s2))) fun e s => some (.mk (acc ++ [nx]) e [] (ya : Int), Gram.Rf.take T [59] s)) := by show _ = _; rw [HR.out, ← HE.out, hsx, if_neg (by decide)]; rfl
   clear HR HE
   refine Hid.out ?_
   refine ld ?_
   go_wp2_with (go_at_call 102; refine hMc.mono ?_; rintro e wk ⟨rfl, hPk, hgk⟩; refine Hid.out ?_)
   have hNk := HNn.out.on hbq hgk hPk
   have hS : Sr (w.alloc ritm0) wk b g cap T w1.heap.size s2 88 [.l 9 1 ((acc ++ [nx]).map nameD), .c (.int .i64 0), .c (.int .i64 0), .c (.string ⟨#[]⟩), .c (.int .i64 0), .c (.int .i64 0), .c (.int .i64 0), .c (.int .i64 0), .l 85 9 [], .c (.int .i64 0), .l 95 6 [], .c (.int .i64 (ya : Int))] [.slice va vn vc, .int .i64 0, .int .i64 0, .string ⟨#[]⟩, .int .i64 0, .int .i64 0, .int .i64 0, .int .i64 0, .slice none 0 0, .int .i64 0, .slice none 0 0, .int .i64 (ya : Int)] := Sr.make ⟨s, HP0.out⟩ hPk hNk.g' (by simp; omega) hNk.row (.cons hNk.gro.rep (.cons (.c _) (.cons (.c _) (.cons (.c _) (.cons (.c _) (.cons (.c _) (.cons (.c _) (.cons (.c _) (.cons (RepC.nil _ _ _ _ _) (.cons (.c _) (.cons (RepC.nil _ _ _ _ _) (.cons (.c _) .nil))))))))))))
   clear hNk HNn hPk hgk hMc
   have hKa := rtake_any b g cap T s2 ⟨#[41]⟩ _ hS.pa
   rw [show ((⟨#[41]⟩ : ByteArray)).data.toList = [41] from rfl] at hKa
   have hK := fun wx (hx : Rp wx b g cap T (Gram.Rf.take T [41] s2)) => rtake_any b g cap T (Gram.Rf.take T [41] s2) ⟨#[61]⟩ wx hx
   rw [show ((⟨#[61]⟩ : ByteArray)).data.toList = [61] from rfl] at hK
   have HS := ld hS
   clear hS
   refine ld ?_
   go_wp2_with (go_at_call 99; first | (refine (hK _ hPy).mono ?_; rintro e w4 ⟨rfl, hPx, hgx⟩; refine Hid.out ?_) | (refine hKa.mono ?_; rintro e w3 ⟨rfl, hPy, hgy⟩))
   have hS4 := (HS.out.on hgy hPy).on hgx hPx
   clear HS hK hKa hPx hgx hPy hgy
   cases hex : Gram.Rf.exp T f (Gram.Rf.take T [61] (Gram.Rf.take T [41] s2)) with
   | none => rw [HT1.out, hex] at hf; cases hf
   | some r =>
   obtain ⟨x, t1⟩ := r
   cases x with
   | mk f1 s1 nm1 tk1 tl1 n1 m1 ks1 a1 =>
   have hc := rexp_any b g cap T f _ _ hS4.pa (by rw [hex]; rfl)
   simp only [hex, rePost, expV] at hc
   have HT2 : Hid (R = some (.mk (acc ++ [nx]) (.mk f1 s1 nm1 tk1 tl1 n1 m1 ks1 a1) [] (ya : Int), Gram.Rf.take T [59] t1)) := by show _ = _; rw [HT1.out, hex]; rfl
   have HS4 := ld hS4
   clear hS4 HT1 hex
   refine ld ?_
   go_wp2_with (go_at_call 166; refine hc.mono ?_; rintro e w5 ⟨k5, rfl, hk5, hP5, hg5⟩; obtain ⟨ka, kn, kc, rfl⟩ := hk5.form; refine Hid.out ?_)
   have hS5 := HS4.out.on hg5 hP5
   have hql4 := HS4.out.ql
   obtain ⟨z0, z1, z2, z3, z4, z5, z6, z7, z8, z9, z10, z11, zf⟩ := rcells_12 (show w5.heap[w1.heap.size]? = some (.cells #[.slice va vn vc, .int .i64 0, .int .i64 0, .string ⟨#[]⟩, .int .i64 0, .int .i64 0, .int .i64 0, .int .i64 0, .slice none 0 0, .int .i64 0, .slice none 0 0, .int .i64 (ya : Int)] 88 (0, 0)) from hS5.row)
   have he5 : RepRow w5 (w1.heap.size + 1) [] [.c (.int .i64 f1), .c (.int .i64 s1), .c (.string ⟨nm1.toArray⟩), .c (.int .i64 tk1), .c (.int .i64 tl1), .c (.int .i64 n1), .c (.int .i64 m1), .l 85 9 (expsD ks1), .c (.int .i64 a1)] [.int .i64 f1, .int .i64 s1, .string ⟨nm1.toArray⟩, .int .i64 tk1, .int .i64 tl1, .int .i64 n1, .int .i64 m1, .slice ka kn kc, .int .i64 a1] := by
    have h9 := exp_row (x := (.mk f1 s1 nm1 tk1 tl1 n1 m1 ks1 a1)) (E := []) (hk5.mono (Nat.succ_le_of_lt hql4))
    simpa only [expD, expCells] using h9
   have hS6 : Sr (w.alloc ritm0) (((((((((w5.setCell ⟨w1.heap.size, 1, none⟩ (.int .i64 f1)).setCell ⟨w1.heap.size, 2, none⟩ (.int .i64 s1)).setCell ⟨w1.heap.size, 3, none⟩ (.string ⟨nm1.toArray⟩)).setCell ⟨w1.heap.size, 4, none⟩ (.int .i64 tk1)).setCell ⟨w1.heap.size, 5, none⟩ (.int .i64 tl1)).setCell ⟨w1.heap.size, 6, none⟩ (.int .i64 n1)).setCell ⟨w1.heap.size, 7, none⟩ (.int .i64 m1)).setCell ⟨w1.heap.size, 8, none⟩ (.slice ka kn kc)).setCell ⟨w1.heap.size, 9, none⟩ (.int .i64 a1)) b g cap T w1.heap.size t1 88 [.l 9 1 ((acc ++ [nx]).map nameD), .c (.int .i64 f1), .c (.int .i64 s1), .c (.string ⟨nm1.toArray⟩), .c (.int .i64 tk1), .c (.int .i64 tl1), .c (.int .i64 n1), .c (.int .i64 m1), .l 85 9 (expsD ks1), .c (.int .i64 a1), .l 95 6 [], .c (.int .i64 (ya : Int))] [.slice va vn vc, .int .i64 f1, .int .i64 s1, .string ⟨nm1.toArray⟩, .int .i64 tk1, .int .i64 tl1, .int .i64 n1, .int .i64 m1, .slice ka kn kc, .int .i64 a1, .slice none 0 0, .int .i64 (ya : Int)] := hS5.exp1 he5
   have hK := rtake_any b g cap T t1 ⟨#[59]⟩ _ hS6.pa
   rw [show ((⟨#[59]⟩ : ByteArray)).data.toList = [59] from rfl] at hK
   have HS6 := ld hS6
   clear hS6 hS5 he5 hc hk5 hP5 hg5
   refine ld ?_
   go_wp2_with (go_at_call 99; refine hK.mono ?_; rintro e w6 ⟨rfl, hPx, hgx⟩; refine Hid.out ?_)
   have hSE := HS6.out.on hgx hPx
   have hgA := hSE.gr
   (try clear z0 z1 z2 z3 z4 z5 z6 z7 z8 z9 z10 z11 zf)
   obtain ⟨z0, z1, z2, z3, z4, z5, z6, z7, z8, z9, z10, z11, zf⟩ := rcells_12 (show w6.heap[w1.heap.size]? = some (.cells #[.slice va vn vc, .int .i64 f1, .int .i64 s1, .string ⟨nm1.toArray⟩, .int .i64 tk1, .int .i64 tl1, .int .i64 n1, .int .i64 m1, .slice ka kn kc, .int .i64 a1, .slice none 0 0, .int .i64 (ya : Int)] 88 (0, 0)) from hSE.row)
   have HSE := ld hSE
   clear hSE hK hPx hgx
   refine ld ?_
   go_wp2_with (with_reducible refine hold_st 2 ?_)
   refine ld ?_
   refine sg ((hgA.block w.heap.size (by simp) (by simp; omega)).trans (heap_alloc_new w ritm0)) ?_
   intro w7 hh7 hg7
   go_wp2
   (try simp only [Exit.inBlock, Exit.then])
   refine br hh7 Tryz.underlying88 ?_
   have hG : w.grownBy w7 (some b) := ((grown_some (ga w ritm0 none) b).trans hgA).andThen hg7 (fun j e => .inl (by cases e; exact Nat.le_refl _))
   obtain ⟨hkk, hss⟩ := HSE.out.ends hg7 (by simp) (by omega)
   rw [HT2.out]
   refine ⟨_, rfl, ?_, HH.out.to hG hss HSE.out.pa.lt, hG⟩
   simpa only [itemD, expD, statesD, List.cons_append, List.nil_append] using hkk
end
structure Pb (w0 w : World) (b g cap : Nat) (T : List Lex.Tk) (q : Nat) (s : Gram.Rf.St) (acc : List Gram.Node) (v : Value) : Prop where
 p : Rp w b g cap T s
 g' : w0.grownBy w (some b)
 row : w.heap[q]? = some (.cells #[v] 27 (0, 0))
 gro : GrowD w (q + 1) 44 6 (acc.map nodeD) v
section
variable {w0 w w' : World} {b g cap : Nat} {T : List Lex.Tk} {q : Nat} {s s' : Gram.Rf.St} {acc : List Gram.Node} {v : Value}
theorem Pb.ql (h : Pb w0 w b g cap T q s acc v) : q < w.heap.size := (Array.getElem?_eq_some_iff.1 h.row).1
theorem Pb.c0 (h : Pb w0 w b g cap T q s acc v) : w.cell? ⟨q, 0, none⟩ = some v := cell_of_row w q 0 _ _ _ h.row
theorem Pb.fr (h : Pb w0 w b g cap T q s acc v) (j : Nat) : w.frozen? ⟨q, j, none⟩ = false := frozen_of_row w q j _ _ h.row
theorem Pb.on (h : Pb w0 w b g cap T q s acc v) (hq : b < q) (hg : w.grownBy w' (some b)) (hp : Rp w' b g cap T s') : Pb w0 w' b g cap T q s' acc v :=
 ⟨hp, h.g'.trans hg, (hg.block q h.ql (by simp; omega)).trans h.row, h.gro.keptB hg (by omega)⟩
end
def pgPost (w : World) (b g cap : Nat) (T : List Lex.Tk) (r : Option (List Gram.Node × Gram.Rf.St)) (e : Ending) (w' : World) : Prop :=
 match r with
 | some x => ∃ v, e = .returned (.agg #[v]) ∧ GrowD w' w.heap.size 44 6 (x.1.map nodeD) v ∧ Rp w' b g cap T x.2 ∧ w.grownBy w' (some b)
 | none => False
section
variable (b g cap : Nat) (T : List Lex.Tk)
end
theorem toks_end : ∀ (f : Nat) (l : List UInt8) (a room : Nat) (T : List Lex.Tk), Lex.toks f l a room = .ok T → ∃ init x, T = init ++ [x] ∧ x.kind = 5 ∧ x.text = [] ∧ T.length ≤ room
 | 0, _, _, _, _, h => by unfold Lex.toks at h; cases h
 | f + 1, l, a, room, T, h => by
  unfold Lex.toks at h
  cases ht : Lex.tokAt (l.drop (Lex.skp false l)) with
  | bad e => rw [ht] at h; cases h
  | tok kd n t len =>
   rw [ht] at h
   simp only at h
   by_cases hr : room = 0
   ·rw [if_pos hr] at h; cases h
   rw [if_neg hr] at h
   by_cases hk : kd = 5
   ·rw [if_pos hk] at h
    cases h
    exact ⟨[], _, rfl, rfl, rfl, by simp; omega⟩
   rw [if_neg hk] at h
   cases hq : Lex.toks f ((l.drop (Lex.skp false l)).drop len) (a + Lex.skp false l + len) (room - 1) with
   | err p e => rw [hq] at h; cases h
   | ok T2 =>
    rw [hq] at h
    cases h
    obtain ⟨init, x, e, h1, h2, h3⟩ := toks_end f _ _ _ T2 hq
    refine ⟨_ :: init, x, by rw [e]; rfl, h1, h2, ?_⟩
    simp only [List.length_cons]
    omega
theorem tokens_end {l : List UInt8} {T : List Lex.Tk} (h : Lex.tokens l = .ok T) : T.length ≤ 20000 ∧ 0 < T.length ∧ ∀ i, i < T.length → ((Gram.tk T i).kind ≠ 5 ∨ (Gram.tk T i).text ≠ []) → i + 1 < T.length := by
 unfold Lex.tokens at h
 split at h
 ·cases h
 obtain ⟨init, x, rfl, h1, h2, h3⟩ := toks_end _ _ _ _ _ h
 refine ⟨h3, by simp, fun i hi hk => ?_⟩
 rcases Nat.lt_or_ge i init.length with hl | hl
 ·simp; omega
 ·exfalso
  have e : i = init.length := by simp at hi; omega
  subst e
  have e2 : Gram.tk (init ++ [x]) init.length = x := by unfold Gram.tk; simp [List.getD]
  rw [e2, h1, h2] at hk
  rcases hk with hk | hk <;> exact hk rfl
theorem results_cell_tmp2 {P : Program} {fn : Func} {p u1 u2 : Tmp} {ty : TypeId} (h : fn.results = #[.cell p ty, .tmp u1, .tmp u2]) (tmps : Array Value) (w : World) (g : Nat) (t : TypeId) (cs : Array Value) (fr : Nat × Nat) (d : TypeDesc) (v1 v2 : Value) (hv1 : tmps.getD u1 undef = v1) (hv2 : tmps.getD u2 undef = v2)
  (hp : tmps.getD p undef = .pointer (some ⟨g, 0, none⟩)) (hg : w.heap[g]? = some (.cells cs t fr))
  (hu : P.underlying ty = some d) (hd : (match d with | .struct _ | .array _ _ => true | _ => false) = true) (hi : (P.info? ty).map (·.size) = some cs.size) :
  (results fn tmps).run P w = .ok (.tuple #[.agg cs, v1, v2]) w := by
 have hp' : tmps[p]?.getD undef = .pointer (some ⟨g, 0, none⟩) := by simpa using hp
 have hv1' : tmps[u1]?.getD undef = v1 := by simpa using hv1
 have hv2' : tmps[u2]?.getD undef = v2 := by simpa using hv2
 simp [results, h, hp', hv1', hv2', asAddr, run_loadVar_row w g t ty cs fr d hg hu hd hi]
theorem results_cell_tmp {P : Program} {fn : Func} {p u1 : Tmp} {ty : TypeId} (h : fn.results = #[.cell p ty, .tmp u1]) (tmps : Array Value) (w : World) (g : Nat) (t : TypeId) (cs : Array Value) (fr : Nat × Nat) (d : TypeDesc) (v1 : Value) (hv1 : tmps.getD u1 undef = v1)
  (hp : tmps.getD p undef = .pointer (some ⟨g, 0, none⟩)) (hg : w.heap[g]? = some (.cells cs t fr))
  (hu : P.underlying ty = some d) (hd : (match d with | .struct _ | .array _ _ => true | _ => false) = true) (hi : (P.info? ty).map (·.size) = some cs.size) :
  (results fn tmps).run P w = .ok (.tuple #[.agg cs, v1]) w := by
 have hp' : tmps[p]?.getD undef = .pointer (some ⟨g, 0, none⟩) := by simpa using hp
 have hv1' : tmps[u1]?.getD undef = v1 := by simpa using hv1
 simp [results, h, hp', hv1', asAddr, run_loadVar_row w g t ty cs fr d hg hu hd hi]
def rpsPost (w : World) (r : Gram.Rf.Res) (e : Ending) (w' : World) : Prop :=
 match r with
 | .ok l => ∃ a L c, e = .returned (.tuple #[.agg #[.slice a L c], .int .i64 0, .int .i64 0]) ∧ RepC w' w.heap.size [] (.l 44 6 (l.map nodeD)) (.slice a L c) ∧ w.grownBy w' none
 | .bad a er => e = .returned (.tuple #[.agg #[.slice none 0 0], .int .i64 a, .int .i64 er]) ∧ er ≠ 0 ∧ w.grownBy w' none
 | .fuel => False
def prE : Obj := .cells #[.slice none 0 0] 27
theorem row1_set {w : World} {b : Nat} {u : Value} {t : TypeId} {fr : Nat × Nat} (h : w.heap[b]? = some (.cells #[u] t fr)) (v : Value) : ((w.setCell ⟨b, 0, none⟩ v).drew).heap[b]? = some (.cells #[v] t fr) := by
 show (w.setCell ⟨b, 0, none⟩ v).heap[b]? = _
 simp only [World.setCell, Array.getElem?_modify, if_true, h, Option.map_some]
 rfl
end Go.Proofs.YtbbamgjdnibldaaGreat
