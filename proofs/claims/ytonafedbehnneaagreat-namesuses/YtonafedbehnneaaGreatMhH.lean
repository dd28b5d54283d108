/- My texts RpU RpV RpW RpX, joined. -/
import Derived.Test.YtonafedbehnneaaGreatMhG
set_option linter.unusedVariables false
set_option linter.unusedSimpArgs false
set_option linter.unnecessarySimpa false
set_option linter.unusedSectionVars false
set_option maxHeartbeats 12800000
set_option maxRecDepth 20000
namespace Go.Proofs.YtonafedbehnneaaGreat
open Go.RowKit Go.Maps Go.WideMaps
namespace Gram.Rf
theorem edges_len {T : List Lex.Tk} : ∀ {f : Nat} {l : List Edge} {s : St} {c : List Edge} {t : St}, edges T f l s = some (c, t) → l.length ≤ 15 → (s.e = 0 ∨ 1 ≤ l.length) → 1 ≤ c.length ∧ c.length ≤ 16 ∧ (t.e = 0 → True)
 | 0, _, _, _, _, h, _, _ => by rw [edges] at h; cases h
 | f + 1, l, s, c, t, h, h1, h0 => by
  rw [edges] at h
  by_cases he : s.e = 0
  ·rw [if_pos he] at h
   simp only at h
   cases hq : is T [97, 110, 100] (edge T s).2 with
   | true =>
    rw [hq, if_pos rfl] at h
    by_cases hm : 16 ≤ l.length + 1
    ·rw [if_pos hm] at h; cases h; exact ⟨by simp, by simp; omega, fun _ => trivial⟩
    ·rw [if_neg hm] at h
     exact edges_len h (by simp; omega) (.inr (by simp))
   | false => rw [hq, if_neg (by decide)] at h; cases h; exact ⟨by simp, by simp; omega, fun _ => trivial⟩
  ·rw [if_neg he] at h; cases h
   rcases h0 with h0 | h0
   ·exact absurd h0 he
   ·exact ⟨h0, by omega, fun _ => trivial⟩
end Gram.Rf
def clkr (c : List Gram.Edge) (v : Gram.Var) : Gram.Var := { v with clock := c }
section
variable (b g cap : Nat) (T : List Lex.Tk)
theorem rlocals_any (f : Nat) : CLoc b g cap T f := by
 intro s w h hf
 obtain ⟨it, hit, hz, hsz, hby⟩ := infoP info_Edge
 have hbw := h.bl
 have hD0 : Dr w w b g cap T w.heap.size s [] (.slice none 0 0) := ⟨⟨s, h⟩, h, World.grownBy.refl _ _, Nat.le_refl _, Nat.le_refl _, GrowD.nil _ _ _ _⟩
 have HD0 := ld hD0
 clear hD0 h
 obtain ⟨R, hR⟩ : ∃ R, R = Gram.Rf.localsL T f [] s := ⟨_, rfl⟩
 rw [← hR] at hf ⊢
 have HR := ld hR
 clear hR
 go_enter Tryz.func68, Tryz.ntmps68
 go_wp2
 go_loopg [3] f (fun (f' : Nat) (s3 : Value) (wr : World) => ∃ (l : List Gram.Var) (s' : Gram.Rf.St), f' ≤ f ∧ l.length ≤ 201 ∧ (s'.e = 0 → l.length ≤ 200) ∧ Hid (Dr w wr b g cap T w.heap.size s' l s3 ∧ R = Gram.Rf.localsL T f' l s'))
 case atStart => exact ⟨[], s, Nat.le_refl _, by simp, by simp, ld ⟨HD0.out, HR.out⟩⟩
 case round =>
  obtain ⟨l, s', hff, ha1, ha0, HG⟩ := hrel
  obtain ⟨hD, hL⟩ := HG.out
  clear HG HD0 HR
  have hP := hD.pa
  have p2 := hP.st.c2
  have hlf := hD.len
  have HD := ld hD
  clear hD
  rcases Nat.eq_zero_or_pos gk with hz0 | hz0
  ·rw [hz0] at hL; rw [hL] at hf; exact absurd hf (by simp [Gram.Rf.localsL])
  obtain ⟨f', hfe⟩ : ∃ f', gk = f' + 1 := ⟨gk - 1, by omega⟩
  subst hfe
  rw [Gram.Rf.localsL] at hL
  by_cases he : s'.e = 0
  ·have b0 : (s'.e == 0) = true := by rw [beq_iff_eq]; exact he
   have ha0 := ha0 he
   rw [if_pos he] at hL
   cases hd : Gram.Rf.decl T f' l s' with
   | none => rw [hL, hd] at hf; cases hf
   | some r =>
   obtain ⟨l1, s1⟩ := r
   have hc := rdecl_any b g cap T f' w wr w.heap.size s' l u3 HD.out ha1 (fun _ => ha0) (by rw [hd]; rfl)
   simp only [hd, drPost] at hc
   obtain ⟨g1, g2, nw, hnw⟩ := Gram.Rf.decl_len hd ha1 (fun _ => ha0)
   rw [hd] at hL
   have HL : Hid (R = Gram.Rf.bindS (if Gram.Rf.is T [119, 104, 101, 110] s1 then Gram.Rf.bindS (Gram.Rf.edges T f' [] (Gram.Rf.adv s1)) fun c s => some (l1.take l.length ++ (l1.drop l.length).map (fun v => { v with clock := c }), s) else some (l1, s1)) fun l' s => if (Gram.Rf.take T [59] s).e = 0 ∧ (Gram.tk T (Gram.Rf.take T [59] s).i).kind = 1 then Gram.Rf.localsL T f' l' (Gram.Rf.take T [59] s) else some (l', Gram.Rf.take T [59] s)) := hL
   clear hL he hd
   generalize s'.e = e0 at p2 b0
   go_wp2_with (go_at_call 76; refine hc.mono ?_; rintro e w1 ⟨v1, rfl, hD1⟩; refine Hid.out ?_)
   have hMb := rmaybe_any b g cap T s1 ⟨#[119, 104, 101, 110]⟩ _ hD1.pa
   unfold Gram.Rf.maybe at hMb
   rw [show ((⟨#[119, 104, 101, 110]⟩ : ByteArray)).data.toList = [119, 104, 101, 110] from rfl] at hMb
   have HD1 := ld hD1
   clear hD1 hc HD hP p2 b0
   cases hq : Gram.Rf.is T [119, 104, 101, 110] s1 with
   | false =>
    rw [hq, if_neg (by decide)] at hMb
    have HRx : Hid (R = if (Gram.Rf.take T [59] s1).e = 0 ∧ (Gram.tk T (Gram.Rf.take T [59] s1).i).kind = 1 then Gram.Rf.localsL T f' l1 (Gram.Rf.take T [59] s1) else some (l1, Gram.Rf.take T [59] s1)) := by show _ = _; rw [HL.out, hq, if_neg (by decide)]; rfl
    clear HL
    refine ld ?_
    go_wp2_with (go_at_call 67; refine hMb.mono ?_; rintro e w2 ⟨rfl, hP2, hg2⟩; refine Hid.out ?_)
    have HDx := ld (HD1.out.on hg2 hP2)
    have hv1 := g1
    have hv0 := g2
    clear HD1 hMb hP2 hg2
    refine ld ?_
    have hTk := rtake_any b g cap T s1 ⟨#[59]⟩ _ HDx.out.pa
    rw [show ((⟨#[59]⟩ : ByteArray)).data.toList = [59] from rfl] at hTk
    have hte := Gram.Rf.take_e (T := T) (w := [59]) (s := s1)
    generalize Gram.Rf.take T [59] s1 = t at hTk HRx hte
    go_wp2_with (go_at_call 64; refine hTk.mono ?_; rintro e wt ⟨rfl, hPt, hgt⟩; refine Hid.out ?_)
    have pt := hPt.st.c2
    have hDt := HDx.out.on hgt hPt
    have HDt := ld hDt
    clear hDt HDx hTk hgt
    by_cases h0 : t.e = 0
    ·have bt : (t.e != 0) = false := bne_t (by rw [beq_iff_eq]; exact h0)
     have hn := rtok_any b g cap T t wt hPt
     have hvv := hv0 (hte h0)
     generalize hy : Gram.tk T t.i = y at hn
     rw [hy] at HRx
     obtain ⟨yk, yt, yn, yu, ya⟩ := y
     have hfk := fldKind ⟨yk, yt, yn, yu, ya⟩
     simp only [tokV] at hn hfk
     by_cases hk : yk = 1
     ·have bk : (yk != 1) = false := bne_t (by rw [beq_iff_eq]; exact hk)
      have HE : Hid (R = Gram.Rf.localsL T f' (l1) t) := by show _ = _; rw [HRx.out, if_pos ⟨h0, hk⟩]
      clear HRx hk h0 hy hte hPt
      generalize t.e = e9 at pt bt
      refine ld ?_
      go_wp2_with (go_at_call 45; refine hn.mono ?_; rintro e wu ⟨rfl, hgu⟩)
      go_roundg f'
      case measure => exact Nat.lt_succ_self _
      case rel => exact ⟨l1, t, by omega, hv1, fun _ => hvv, ld ⟨HDt.out.kept0 hgu, HE.out⟩⟩
     ·have bk : (yk != 1) = true := bne_f (by rw [beq_eq_false_iff_ne]; exact hk)
      have HE : Hid (R = some (l1, t)) := by show _ = _; rw [HRx.out, if_neg (fun e => hk e.2)]
      clear HRx hk h0 hy hte hPt
      generalize t.e = e9 at pt bt
      refine ld ?_
      go_wp2_with (go_at_call 45; refine hn.mono ?_; rintro e wu ⟨rfl, hgu⟩)
      go_ret
      rw [HE.out]
      have hZ := HDt.out.kept0 hgu
      exact ⟨_, rfl, hZ.gro, hZ.pa, hZ.gr⟩
    ·have bt : (t.e != 0) = true := bne_f (by rw [beq_eq_false_iff_ne]; exact h0)
     have HE : Hid (R = some (l1, t)) := by show _ = _; rw [HRx.out, if_neg (fun e => h0 e.1)]
     clear HRx h0 hte hPt
     generalize t.e = e9 at pt bt
     refine ld ?_
     go_wp2
     go_ret
     rw [HE.out]
     exact ⟨_, rfl, HDt.out.gro, HDt.out.pa, HDt.out.gr⟩
   | true =>
    rw [hq, if_pos rfl] at hMb
    have he1 := (is_kind hq).1
    have g3 := g2 he1
    cases hx : Gram.Rf.edges T f' [] (Gram.Rf.adv s1) with
    | none => rw [HL.out, hq, if_pos rfl, hx] at hf; cases hf
    | some r =>
    obtain ⟨c, s2⟩ := r
    obtain ⟨hc1, hc16, _⟩ := Gram.Rf.edges_len hx (by simp) (.inl he1)
    have hX := fun wx (hy : Rp wx b g cap T (Gram.Rf.adv s1)) => redges_any b g cap T f' (Gram.Rf.adv s1) wx hy (by rw [hx]; rfl)
    simp only [hx, rlPost] at hX
    have HRx : Hid (R = if (Gram.Rf.take T [59] s2).e = 0 ∧ (Gram.tk T (Gram.Rf.take T [59] s2).i).kind = 1 then Gram.Rf.localsL T f' (l ++ nw.map (clkr c)) (Gram.Rf.take T [59] s2) else some (l ++ nw.map (clkr c), Gram.Rf.take T [59] s2)) := by
     show _ = _
     rw [HL.out, hq, if_pos rfl, hx, hnw, List.take_left, List.drop_left]
     rfl
    clear HL hx he1
    refine ld ?_
    go_wp2_with (first | (go_at_call 77; refine (hX _ hP2).mono ?_; rintro e w3 ⟨v3, rfl, hk3, hP3, hg3⟩; refine Hid.out ?_) | (go_at_call 67; refine hMb.mono ?_; rintro e w2 ⟨rfl, hP2, hg2⟩))
    have hD2 := HD1.out.on hg2 hP2
    have hD3 := hD2.on hg3 hP3
    have hlen1 := hD3.len
    have hvlt := hD2.gro.lt
    have hy8 : ∀ k, v1.ownBlock = some k → k < w2.heap.size := fun k e => hvlt k (by rw [e]; simp)
    rw [hnw] at hD3 hlen1
    rw [List.length_append] at hlen1
    have hln : l.length + nw.length ≤ 200 := by rw [hnw, List.length_append] at g3; exact g3
    have HD3 := ld hD3
    have HK3 := ld hk3
    have hg3s := hg3.size
    clear hD3 hD2 hvlt hk3 hX hMb hP2 hg2 hP3 hg3 HD1 hnw g1 g2 g3
    obtain ⟨N, hNe⟩ : ∃ N, N = l.length + nw.length := ⟨_, rfl⟩
    rw [← hNe] at hlen1
    have HNe := ld hNe
    clear hNe
    refine ld ?_
    go_wp2
    go_loopg [7] nw.length (fun (gz : Nat) (s7 : Value) (wq : World) => ∃ (M m : Nat), Hid (M = l.length + m) ∧ m + gz = nw.length ∧ s7 = .int .i64 (M : Int) ∧ Hid (GrowD wq w2.heap.size 126 2 (c.map edgeD) v3 ∧ Dr w wq b g cap T w.heap.size s2 (l ++ (nw.take m).map (clkr c) ++ nw.drop m) v1 ∧ w2.heap.size ≤ wq.heap.size))
    case atStart => exact ⟨l.length, 0, ld rfl, by omega, rfl, ld ⟨HK3.out, by simpa using HD3.out, hg3s⟩⟩
    case round =>
     obtain ⟨M, m, HM9, hm9, rfl, HG⟩ := hrel
     obtain ⟨hK, hD, hwr⟩ := HG.out
     clear HG
     have hN2 := HNe.out
     have hM := HM9.out
     rcases Nat.eq_zero_or_pos gk with hz1 | hz1
     ·have hnl : ¬ (M : Int) < (N : Int) := by omega
      have hme : m = nw.length := by omega
      have HDx : Hid (Dr w wr b g cap T w.heap.size s2 (l ++ nw.map (clkr c)) v1) := by
       refine ld ?_
       rw [hme, List.take_length, List.drop_length] at hD
       simpa using hD
      have hv1 : (l ++ nw.map (clkr c)).length ≤ 201 := by simp; omega
      have hv0 : s2.e = 0 → (l ++ nw.map (clkr c)).length ≤ 200 := fun _ => by simp; omega
      clear hD hK HD3 HK3 hN2 hM hme hm9
      have hTk := rtake_any b g cap T s2 ⟨#[59]⟩ _ HDx.out.pa
      rw [show ((⟨#[59]⟩ : ByteArray)).data.toList = [59] from rfl] at hTk
      have hte := Gram.Rf.take_e (T := T) (w := [59]) (s := s2)
      generalize Gram.Rf.take T [59] s2 = t at hTk HRx hte
      go_wp2_with (go_at_call 64; refine hTk.mono ?_; rintro e wt ⟨rfl, hPt, hgt⟩; refine Hid.out ?_)
      have pt := hPt.st.c2
      have hDt := HDx.out.on hgt hPt
      have HDt := ld hDt
      clear hDt HDx hTk hgt
      by_cases h0 : t.e = 0
      ·have bt : (t.e != 0) = false := bne_t (by rw [beq_iff_eq]; exact h0)
       have hn := rtok_any b g cap T t wt hPt
       have hvv := hv0 (hte h0)
       generalize hy : Gram.tk T t.i = y at hn
       rw [hy] at HRx
       obtain ⟨yk, yt, yn, yu, ya⟩ := y
       have hfk := fldKind ⟨yk, yt, yn, yu, ya⟩
       simp only [tokV] at hn hfk
       by_cases hk : yk = 1
       ·have bk : (yk != 1) = false := bne_t (by rw [beq_iff_eq]; exact hk)
        have HE : Hid (R = Gram.Rf.localsL T f' (l ++ nw.map (clkr c)) t) := by show _ = _; rw [HRx.out, if_pos ⟨h0, hk⟩]
        clear HRx hk h0 hy hte hPt
        generalize t.e = e9 at pt bt
        refine ld ?_
        go_wp2_with (go_at_call 45; refine hn.mono ?_; rintro e wu ⟨rfl, hgu⟩)
        go_roundg f'
        case measure => exact Nat.lt_succ_self _
        case rel => exact ⟨l ++ nw.map (clkr c), t, by omega, hv1, fun _ => hvv, ld ⟨HDt.out.kept0 hgu, HE.out⟩⟩
       ·have bk : (yk != 1) = true := bne_f (by rw [beq_eq_false_iff_ne]; exact hk)
        have HE : Hid (R = some (l ++ nw.map (clkr c), t)) := by show _ = _; rw [HRx.out, if_neg (fun e => hk e.2)]
        clear HRx hk h0 hy hte hPt
        generalize t.e = e9 at pt bt
        refine ld ?_
        go_wp2_with (go_at_call 45; refine hn.mono ?_; rintro e wu ⟨rfl, hgu⟩)
        go_ret
        rw [HE.out]
        have hZ := HDt.out.kept0 hgu
        exact ⟨_, rfl, hZ.gro, hZ.pa, hZ.gr⟩
      ·have bt : (t.e != 0) = true := bne_f (by rw [beq_eq_false_iff_ne]; exact h0)
       have HE : Hid (R = some (l ++ nw.map (clkr c), t)) := by show _ = _; rw [HRx.out, if_neg (fun e => h0 e.1)]
       clear HRx h0 hte hPt
       generalize t.e = e9 at pt bt
       refine ld ?_
       go_wp2
       go_ret
       rw [HE.out]
       exact ⟨_, rfl, HDt.out.gro, HDt.out.pa, HDt.out.gr⟩
     ·have hlt : (M : Int) < (N : Int) := by omega
      have hnn : ¬ (M : Int) < 0 := by omega
      have hml : m < nw.length := by omega
      obtain ⟨f9, hfe9⟩ : ∃ f9, gk = f9 + 1 := ⟨gk - 1, by omega⟩
      have hdr : nw.drop m = nw[m] :: nw.drop (m + 1) := List.drop_eq_getElem_cons hml
      obtain ⟨a, ha⟩ : ∃ a, a = nw[m] := ⟨_, rfl⟩
      rw [← ha] at hdr
      rw [hdr] at hD
      obtain ⟨xs4, ho4, _⟩ := hD.gro
      have hl4 : (l ++ List.map (clkr c) (List.take m nw) ++ a :: List.drop (m + 1) nw).length = N := by
       simp only [List.length_append, List.length_map, List.length_cons, List.length_take, List.length_drop]; omega
      rw [List.length_map, hl4] at ho4
      rcases ho4.2 with ⟨e4, h40⟩ | ⟨gg, cc, cur, e4, hb4, _, hncc, hccm, _⟩
      ·omega
      subst e4
      have hMb : (M : Int) + 1 < 9223372036854775808 := by unfold maxLen at hccm; omega
      have hgg : gg < w2.heap.size := hy8 gg rfl
      have hA : (l ++ List.map (clkr c) (List.take m nw)).length = M := by
       simp only [List.length_append, List.length_map, List.length_take]; omega
      have HD := ld hD
      have HK := ld hK
      have HX := ld (And.intro hl4 (And.intro hA (And.intro hdr ha)))
      obtain ⟨xe, hoe, hre⟩ := hK
      rw [List.length_map] at hoe
      have hoe1 : xe.length = c.length * 2 := hoe.1
      rcases hoe.2 with ⟨_, h40⟩ | ⟨ge, ce, cue, e5, hbe, hge, hc1', hc2', hc3', hc4'⟩
      ·omega
      subst e5
      have hone := edges_one hre
      have hcell : ∀ (j : Nat) (u : Value), xe[j]? = some u → wr.cell? ((⟨ge, 0, none⟩ : Addr).add j) = some u := by
       intro j u hj
       rw [Addr.add_mid, Nat.zero_add, cell_of_row wr ge j _ _ _ hge, ← Array.getElem?_toList]
       rw [← hc4'] at hj
       rw [List.getElem?_take] at hj
       split at hj
       ·exact hj
       ·cases hj
      clear hD hl4 hA hdr ha hN2 hM ho4 hge hc1' hc2' hc3' hc4' hbe hb4 hoe
      go_wp2_with (at_builtin; refine wpList_append_own_at _ rfl _ _ 110 rfl wr.heap.size 126 it _ 2 24 Tryz.underlying110 hit hz hsz hby rfl (by decide) _ 0 [] rfl (World.ownsRow_nil wr wr.heap.size _ _) ⟨ge, 0, none⟩ c.length ce xe rfl hoe1 hcell hone ?_ ?_ ?_ ?_)
      ·unfold maxLen; omega
      ·omega
      intro v' w5 hown' hgrow5 _ hvb
      have hg5 : wr.grownBy w5 none := hgrow5
      have hk5 : GrowD w5 wr.heap.size 126 2 (c.map edgeD) v' := ⟨xe, by rw [List.length_map]; simpa using hown', repEdges hre⟩
      obtain ⟨ka, kn, kc, rfl⟩ := hk5.form
      obtain ⟨hl4, hA, hdr, ha⟩ := HX.out
      have hD5 := HD.out.kept0 hg5
      obtain ⟨q1, hq1⟩ := hD5.gro.there (M * 5 + 3) (by rw [List.length_map, hl4]; have hN2 := HNe.out; have hM := HM9.out; omega)
      have hfz := hD5.gro.free
      have hs5 := hg5.size
      have hre : RepC w5 w.heap.size [gg] (.l 126 2 (c.map edgeD)) (.slice ka kn kc) := RepC.mono (HD.out.Bs) (RepC.toX [gg] (fun k e => .inr (by simp at e; omega)) hk5.rep)
      have hD6 := hD5.put 3 (by omega) (x' := clkr c a) (d' := .l 126 2 (c.map edgeD)) (u := .slice ka kn kc) rfl hre (M * 5 + 3) (by rw [hA])
      have HD6 : Hid (Dr w (w5.setCell ⟨gg, M * 5 + 3, none⟩ (.slice ka kn kc)) b g cap T w.heap.size s2 (l ++ (nw.take (m + 1)).map (clkr c) ++ nw.drop (m + 1)) (.slice (some ⟨gg, 0, none⟩) N cc)) := by
       refine ld ?_
       have e : l ++ (nw.take (m + 1)).map (clkr c) ++ nw.drop (m + 1) = l ++ List.map (clkr c) (List.take m nw) ++ clkr c a :: List.drop (m + 1) nw := by
        rw [List.take_add_one, List.getElem?_eq_getElem hml, ← ha]
        simp
       rw [e]
       exact hD6
      have HK6 : Hid (GrowD (w5.setCell ⟨gg, M * 5 + 3, none⟩ (.slice ka kn kc)) w2.heap.size 126 2 (c.map edgeD) (.slice (some ⟨ge, 0, none⟩) c.length ce)) := ld ((HK.out.kept0 hg5).keptB (grown_set w5 ⟨gg, M * 5 + 3, none⟩ _) hgg)
      clear hD5 hD6 hl4 hA hdr ha hre hk5
      go_wp2
      subst hfe9
      go_roundg f9
      case measure => exact Nat.lt_succ_self _
      case rel => exact ⟨M + 1, m + 1, ld (by rw [HM9.out]; omega), by omega, by simp, ld ⟨HK6.out, HD6.out, by simp; omega⟩⟩
  ·have b0 : (s'.e == 0) = false := by rw [beq_eq_false_iff_ne]; exact he
   have HE : Hid (R = some (l, s')) := by show _ = _; rw [hL, if_neg he]
   clear hL he hf
   generalize s'.e = e0 at p2 b0
   go_wp2
   go_ret
   rw [HE.out]
   exact ⟨_, rfl, HD.out.gro, HD.out.pa, HD.out.gr⟩
end
open Go.RowKit Go.Maps Go.WideMaps
def rnod0 : Obj := .cells #[.string ⟨#[]⟩, .slice none 0 0, .slice none 0 0, .slice none 0 0, .slice none 0 0, .int .i64 0] 31
section
variable (b g cap : Nat) (T : List Lex.Tk)
theorem rnode_any (f : Nat) (hC : ∀ f', f' < f → CIm b g cap T f') (s : Gram.Rf.St) (w : World) (h : Rp w b g cap T s) (hf : (Gram.Rf.node T f s).isSome = true) :
  Calls Tryz.prog 49 #[.pointer (some ⟨b, 0, none⟩)] w fun e w' => r1Post nodeD w b g cap T (Gram.Rf.node T f s) e w' := by
 have hbw := h.bl
 have hP0 := h.alloc rnod0
 obtain ⟨R, hR⟩ : ∃ R, R = Gram.Rf.node T f s := ⟨_, rfl⟩
 rw [← hR] at hf ⊢
 unfold Gram.Rf.node at hR
 have hT := rtok_any b g cap T s _ hP0
 generalize Gram.tk T s.i = y at hT hR
 obtain ⟨yk, yt, yn, yu, ya⟩ := y
 have hfd := fldAt ⟨yk, yt, yn, yu, ya⟩
 simp only [tokV] at hT hfd
 have HH := ld h
 have HR := ld hR
 clear h hR
 go_enter Tryz.func49, Tryz.ntmps49
 go_wp2_with (go_at_call 45; refine hT.mono ?_; rintro e w1 ⟨rfl, hg1⟩; refine Hid.out ?_)
 have hs1 := hg1.size
 have hS0 : Sr (w.alloc rnod0) (w1.alloc (.cells #[.string ⟨#[]⟩, .slice none 0 0, .slice none 0 0, .slice none 0 0, .slice none 0 0, .int .i64 (ya : Int)] 31)) b g cap T w1.heap.size s 31 [.c (.string ⟨#[]⟩), .l 112 5 [], .l 112 5 [], .l 112 5 [], .l 40 12 [], .c (.int .i64 (ya : Int))] [.string ⟨#[]⟩, .slice none 0 0, .slice none 0 0, .slice none 0 0, .slice none 0 0, .int .i64 (ya : Int)] :=
  Sr.make ⟨s, hP0⟩ ((hP0.kept hg1).alloc _) (galloc (grown_some hg1 b) _) hs1 (heap_alloc_new w1 _) (.cons (.c _) (.cons (RepC.nil _ _ _ _ _) (.cons (RepC.nil _ _ _ _ _) (.cons (RepC.nil _ _ _ _ _) (.cons (RepC.nil _ _ _ _ _) (.cons (.c _) .nil))))))
 rw [World.size_alloc] at hs1
 clear hT hg1
 have hS := hS0
 clear hS0
 have hK := rtake_any b g cap T s ⟨#[110, 111, 100, 101]⟩ _ hS.pa
 rw [show ((⟨#[110, 111, 100, 101]⟩ : ByteArray)).data.toList = [110, 111, 100, 101] from rfl] at hK
 have HS := ld hS
 clear hS
 refine ld ?_
 go_wp2_with (go_at_call 64; refine hK.mono ?_; rintro e x1 ⟨rfl, hPx, hgx⟩; refine Hid.out ?_)
 have hS := HS.out.on hgx hPx
 clear HS hK hPx hgx
 (try clear z0 z1 z2 z3 z4 z5 zf)
 obtain ⟨z0, z1, z2, z3, z4, z5, zf⟩ := rcells_6 (show x1.heap[w1.heap.size]? = some (.cells #[.string ⟨#[]⟩, .slice none 0 0, .slice none 0 0, .slice none 0 0, .slice none 0 0, .int .i64 (ya : Int)] 31 (0, 0)) from hS.row)
 have hN := rname_any b g cap T (Gram.Rf.take T [110, 111, 100, 101] s) _ hS.pa
 generalize hrr : Gram.Rf.name T (Gram.Rf.take T [110, 111, 100, 101] s) = rr at hN
 obtain ⟨nx, t0⟩ := rr
 have HT1 : Hid (R = Gram.Rf.bindS (if Gram.Rf.is T [41] (Gram.Rf.take T [40] t0) then some ([], Gram.Rf.take T [40] t0) else Gram.Rf.decls T f (Gram.Rf.take T [40] t0)) fun ins s1 => Gram.Rf.bindS (Gram.Rf.decls T f (Gram.Rf.take T [40] (Gram.Rf.take T [114, 101, 116, 117, 114, 110, 115] (Gram.Rf.take T [41] s1)))) fun outs s1 => Gram.Rf.bindS (if Gram.Rf.is T [118, 97, 114] (Gram.Rf.take T [41] s1) then Gram.Rf.localsL T f [] (Gram.Rf.adv (Gram.Rf.take T [41] s1)) else some ([], (Gram.Rf.take T [41] s1))) fun ls s1 => Gram.Rf.bindS (Gram.Rf.items T f [] (Gram.Rf.take T [108, 101, 116] s1)) fun its s1 => some (⟨nx, ins, outs, ls, its, (ya : Int)⟩, Gram.Rf.take T [116, 101, 108] s1)) := by show _ = _; rw [HR.out, hrr]
 simp only at hN
 have HS := ld hS
 clear hS hrr HR
 refine ld ?_
 go_wp2_with (go_at_call 65; refine hN.mono ?_; rintro e xn ⟨rfl, hPx, hgx⟩; refine Hid.out ?_)
 have hS := HS.out.on hgx hPx
 (try clear z0 z1 z2 z3 z4 z5 zf)
 obtain ⟨z0, z1, z2, z3, z4, z5, zf⟩ := rcells_6 (show xn.heap[w1.heap.size]? = some (.cells #[.string ⟨#[]⟩, .slice none 0 0, .slice none 0 0, .slice none 0 0, .slice none 0 0, .int .i64 (ya : Int)] 31 (0, 0)) from hS.row)
 have hS : Sr (w.alloc rnod0) (xn.setCell ⟨w1.heap.size, 0, none⟩ (.string ⟨nx.toArray⟩)) b g cap T w1.heap.size t0 31 [.c (.string ⟨nx.toArray⟩), .l 112 5 [], .l 112 5 [], .l 112 5 [], .l 40 12 [], .c (.int .i64 (ya : Int))] [.string ⟨nx.toArray⟩, .slice none 0 0, .slice none 0 0, .slice none 0 0, .slice none 0 0, .int .i64 (ya : Int)] := hS.set 0 (.c _)
 clear HS hN hPx hgx
 have hK := rtake_any b g cap T t0 ⟨#[40]⟩ _ hS.pa
 rw [show ((⟨#[40]⟩ : ByteArray)).data.toList = [40] from rfl] at hK
 have HS := ld hS
 clear hS
 refine ld ?_
 go_wp2_with (go_at_call 64; refine hK.mono ?_; rintro e x2 ⟨rfl, hPx, hgx⟩; refine Hid.out ?_)
 have hS := HS.out.on hgx hPx
 clear HS hK hPx hgx
 (try clear z0 z1 z2 z3 z4 z5 zf)
 obtain ⟨z0, z1, z2, z3, z4, z5, zf⟩ := rcells_6 (show x2.heap[w1.heap.size]? = some (.cells #[.string ⟨nx.toArray⟩, .slice none 0 0, .slice none 0 0, .slice none 0 0, .slice none 0 0, .int .i64 (ya : Int)] 31 (0, 0)) from hS.row)
 have hMi := ris_any b g cap T (Gram.Rf.take T [40] t0) ⟨#[41]⟩ _ hS.pa
 rw [show ((⟨#[41]⟩ : ByteArray)).data.toList = [41] from rfl] at hMi
 have HS3 := ld hS
 clear hS
 cases hqi : Gram.Rf.is T [41] (Gram.Rf.take T [40] t0) with
 | true =>
  rw [hqi] at hMi
  have HT2 : Hid (R = Gram.Rf.bindS (Gram.Rf.decls T f (Gram.Rf.take T [40] (Gram.Rf.take T [114, 101, 116, 117, 114, 110, 115] (Gram.Rf.take T [41] (Gram.Rf.take T [40] t0))))) fun outs s1 => Gram.Rf.bindS (if Gram.Rf.is T [118, 97, 114] (Gram.Rf.take T [41] s1) then Gram.Rf.localsL T f [] (Gram.Rf.adv (Gram.Rf.take T [41] s1)) else some ([], (Gram.Rf.take T [41] s1))) fun ls s1 => Gram.Rf.bindS (Gram.Rf.items T f [] (Gram.Rf.take T [108, 101, 116] s1)) fun its s1 => some (⟨nx, [], outs, ls, its, (ya : Int)⟩, Gram.Rf.take T [116, 101, 108] s1)) := by show _ = _; rw [HT1.out, hqi, if_pos rfl]; rfl
  clear HT1
  refine ld ?_
  go_wp2_with (go_at_call 46; refine hMi.mono ?_; rintro e xi ⟨rfl, hgx⟩; refine Hid.out ?_)
  have hS := HS3.out.kept0 hgx
  clear hMi hgx HS3
  (try clear z0 z1 z2 z3 z4 z5 zf)
  obtain ⟨z0, z1, z2, z3, z4, z5, zf⟩ := rcells_6 (show xi.heap[w1.heap.size]? = some (.cells #[.string ⟨nx.toArray⟩, .slice none 0 0, .slice none 0 0, .slice none 0 0, .slice none 0 0, .int .i64 (ya : Int)] 31 (0, 0)) from hS.row)
  have hK := rtake_any b g cap T (Gram.Rf.take T [40] t0) ⟨#[41]⟩ _ hS.pa
  rw [show ((⟨#[41]⟩ : ByteArray)).data.toList = [41] from rfl] at hK
  have HS := ld hS
  clear hS
  refine ld ?_
  go_wp2_with (go_at_call 64; refine hK.mono ?_; rintro e x3 ⟨rfl, hPx, hgx⟩; refine Hid.out ?_)
  have hS := HS.out.on hgx hPx
  clear HS hK hPx hgx
  (try clear z0 z1 z2 z3 z4 z5 zf)
  obtain ⟨z0, z1, z2, z3, z4, z5, zf⟩ := rcells_6 (show x3.heap[w1.heap.size]? = some (.cells #[.string ⟨nx.toArray⟩, .slice none 0 0, .slice none 0 0, .slice none 0 0, .slice none 0 0, .int .i64 (ya : Int)] 31 (0, 0)) from hS.row)
  have hK := rtake_any b g cap T (Gram.Rf.take T [41] (Gram.Rf.take T [40] t0)) ⟨#[114, 101, 116, 117, 114, 110, 115]⟩ _ hS.pa
  rw [show ((⟨#[114, 101, 116, 117, 114, 110, 115]⟩ : ByteArray)).data.toList = [114, 101, 116, 117, 114, 110, 115] from rfl] at hK
  have HS := ld hS
  clear hS
  refine ld ?_
  go_wp2_with (go_at_call 64; refine hK.mono ?_; rintro e x4 ⟨rfl, hPx, hgx⟩; refine Hid.out ?_)
  have hS := HS.out.on hgx hPx
  clear HS hK hPx hgx
  (try clear z0 z1 z2 z3 z4 z5 zf)
  obtain ⟨z0, z1, z2, z3, z4, z5, zf⟩ := rcells_6 (show x4.heap[w1.heap.size]? = some (.cells #[.string ⟨nx.toArray⟩, .slice none 0 0, .slice none 0 0, .slice none 0 0, .slice none 0 0, .int .i64 (ya : Int)] 31 (0, 0)) from hS.row)
  have hK := rtake_any b g cap T (Gram.Rf.take T [114, 101, 116, 117, 114, 110, 115] (Gram.Rf.take T [41] (Gram.Rf.take T [40] t0))) ⟨#[40]⟩ _ hS.pa
  rw [show ((⟨#[40]⟩ : ByteArray)).data.toList = [40] from rfl] at hK
  have HS := ld hS
  clear hS
  refine ld ?_
  go_wp2_with (go_at_call 64; refine hK.mono ?_; rintro e x5 ⟨rfl, hPx, hgx⟩; refine Hid.out ?_)
  have hS := HS.out.on hgx hPx
  clear HS hK hPx hgx
  (try clear z0 z1 z2 z3 z4 z5 zf)
  obtain ⟨z0, z1, z2, z3, z4, z5, zf⟩ := rcells_6 (show x5.heap[w1.heap.size]? = some (.cells #[.string ⟨nx.toArray⟩, .slice none 0 0, .slice none 0 0, .slice none 0 0, .slice none 0 0, .int .i64 (ya : Int)] 31 (0, 0)) from hS.row)
  cases hex : Gram.Rf.decls T f (Gram.Rf.take T [40] (Gram.Rf.take T [114, 101, 116, 117, 114, 110, 115] (Gram.Rf.take T [41] (Gram.Rf.take T [40] t0)))) with
  | none => rw [HT2.out, hex] at hf; cases hf
  | some r =>
  obtain ⟨l2, t2⟩ := r
  have hK := rdecls_any b g cap T f (Gram.Rf.take T [40] (Gram.Rf.take T [114, 101, 116, 117, 114, 110, 115] (Gram.Rf.take T [41] (Gram.Rf.take T [40] t0)))) _ hS.pa (by rw [hex]; rfl)
  simp only [hex, rlPost] at hK
  have HT4 : Hid (R = Gram.Rf.bindS (if Gram.Rf.is T [118, 97, 114] (Gram.Rf.take T [41] t2) then Gram.Rf.localsL T f [] (Gram.Rf.adv (Gram.Rf.take T [41] t2)) else some ([], (Gram.Rf.take T [41] t2))) fun ls s1 => Gram.Rf.bindS (Gram.Rf.items T f [] (Gram.Rf.take T [108, 101, 116] s1)) fun its s1 => some (⟨nx, [], l2, ls, its, (ya : Int)⟩, Gram.Rf.take T [116, 101, 108] s1)) := by show _ = _; rw [HT2.out, hex]; rfl
  clear HT2 hex
  have HS := ld hS
  clear hS
  refine ld ?_
  go_wp2_with (go_at_call 66; refine hK.mono ?_; rintro e x6 ⟨vx, rfl, hkx, hPx, hgx⟩; obtain ⟨p2a, p2n, p2c, rfl⟩ := hkx.form; refine Hid.out ?_)
  have hS := HS.out.on hgx hPx
  have hqx := HS.out.ql
  (try clear z0 z1 z2 z3 z4 z5 zf)
  obtain ⟨z0, z1, z2, z3, z4, z5, zf⟩ := rcells_6 (show x6.heap[w1.heap.size]? = some (.cells #[.string ⟨nx.toArray⟩, .slice none 0 0, .slice none 0 0, .slice none 0 0, .slice none 0 0, .int .i64 (ya : Int)] 31 (0, 0)) from hS.row)
  have hS : Sr (w.alloc rnod0) (x6.setCell ⟨w1.heap.size, 2, none⟩ (.slice p2a p2n p2c)) b g cap T w1.heap.size t2 31 [.c (.string ⟨nx.toArray⟩), .l 112 5 [], .l 112 5 (l2.map varD), .l 112 5 [], .l 40 12 [], .c (.int .i64 (ya : Int))] [.string ⟨nx.toArray⟩, .slice none 0 0, .slice p2a p2n p2c, .slice none 0 0, .slice none 0 0, .int .i64 (ya : Int)] := hS.set 2 (hkx.mono (Nat.succ_le_of_lt hqx)).rep
  clear HS hK hPx hgx hqx hkx
  have hK := rtake_any b g cap T t2 ⟨#[41]⟩ _ hS.pa
  rw [show ((⟨#[41]⟩ : ByteArray)).data.toList = [41] from rfl] at hK
  have HS := ld hS
  clear hS
  refine ld ?_
  go_wp2_with (go_at_call 64; refine hK.mono ?_; rintro e x7 ⟨rfl, hPx, hgx⟩; refine Hid.out ?_)
  have hS := HS.out.on hgx hPx
  clear HS hK hPx hgx
  (try clear z0 z1 z2 z3 z4 z5 zf)
  obtain ⟨z0, z1, z2, z3, z4, z5, zf⟩ := rcells_6 (show x7.heap[w1.heap.size]? = some (.cells #[.string ⟨nx.toArray⟩, .slice none 0 0, .slice p2a p2n p2c, .slice none 0 0, .slice none 0 0, .int .i64 (ya : Int)] 31 (0, 0)) from hS.row)
  have hMb := rmaybe_any b g cap T (Gram.Rf.take T [41] t2) ⟨#[118, 97, 114]⟩ _ hS.pa
  unfold Gram.Rf.maybe at hMb
  rw [show ((⟨#[118, 97, 114]⟩ : ByteArray)).data.toList = [118, 97, 114] from rfl] at hMb
  have HS4 := ld hS
  clear hS
  cases hq : Gram.Rf.is T [118, 97, 114] (Gram.Rf.take T [41] t2) with
  | true =>
   rw [hq, if_pos rfl] at hMb
   have HT5 : Hid (R = Gram.Rf.bindS (Gram.Rf.localsL T f [] (Gram.Rf.adv (Gram.Rf.take T [41] t2))) fun ls s1 => Gram.Rf.bindS (Gram.Rf.items T f [] (Gram.Rf.take T [108, 101, 116] s1)) fun its s1 => some (⟨nx, [], l2, ls, its, (ya : Int)⟩, Gram.Rf.take T [116, 101, 108] s1)) := by show _ = _; rw [HT4.out, hq, if_pos rfl]
   clear HT4
   refine ld ?_
   go_wp2_with (go_at_call 67; refine hMb.mono ?_; rintro e xm ⟨rfl, hPx, hgx⟩; refine Hid.out ?_)
   have hS := HS4.out.on hgx hPx
   clear hMb hPx hgx HS4
   (try clear z0 z1 z2 z3 z4 z5 zf)
   obtain ⟨z0, z1, z2, z3, z4, z5, zf⟩ := rcells_6 (show xm.heap[w1.heap.size]? = some (.cells #[.string ⟨nx.toArray⟩, .slice none 0 0, .slice p2a p2n p2c, .slice none 0 0, .slice none 0 0, .int .i64 (ya : Int)] 31 (0, 0)) from hS.row)
   cases hex : Gram.Rf.localsL T f [] (Gram.Rf.adv (Gram.Rf.take T [41] t2)) with
   | none => rw [HT5.out, hex] at hf; cases hf
   | some r =>
   obtain ⟨l3, t3⟩ := r
   have hK := rlocals_any b g cap T f (Gram.Rf.adv (Gram.Rf.take T [41] t2)) _ hS.pa (by rw [hex]; rfl)
   simp only [hex, rlPost] at hK
   have HT6 : Hid (R = Gram.Rf.bindS (Gram.Rf.items T f [] (Gram.Rf.take T [108, 101, 116] t3)) fun its s1 => some (⟨nx, [], l2, l3, its, (ya : Int)⟩, Gram.Rf.take T [116, 101, 108] s1)) := by show _ = _; rw [HT5.out, hex]; rfl
   clear HT5 hex
   have HS := ld hS
   clear hS
   refine ld ?_
   go_wp2_with (go_at_call 68; refine hK.mono ?_; rintro e x8 ⟨vx, rfl, hkx, hPx, hgx⟩; obtain ⟨p3a, p3n, p3c, rfl⟩ := hkx.form; refine Hid.out ?_)
   have hS := HS.out.on hgx hPx
   have hqx := HS.out.ql
   (try clear z0 z1 z2 z3 z4 z5 zf)
   obtain ⟨z0, z1, z2, z3, z4, z5, zf⟩ := rcells_6 (show x8.heap[w1.heap.size]? = some (.cells #[.string ⟨nx.toArray⟩, .slice none 0 0, .slice p2a p2n p2c, .slice none 0 0, .slice none 0 0, .int .i64 (ya : Int)] 31 (0, 0)) from hS.row)
   have hS : Sr (w.alloc rnod0) (x8.setCell ⟨w1.heap.size, 3, none⟩ (.slice p3a p3n p3c)) b g cap T w1.heap.size t3 31 [.c (.string ⟨nx.toArray⟩), .l 112 5 [], .l 112 5 (l2.map varD), .l 112 5 (l3.map varD), .l 40 12 [], .c (.int .i64 (ya : Int))] [.string ⟨nx.toArray⟩, .slice none 0 0, .slice p2a p2n p2c, .slice p3a p3n p3c, .slice none 0 0, .int .i64 (ya : Int)] := hS.set 3 (hkx.mono (Nat.succ_le_of_lt hqx)).rep
   clear HS hK hPx hgx hqx hkx
   have hK := rtake_any b g cap T t3 ⟨#[108, 101, 116]⟩ _ hS.pa
   rw [show ((⟨#[108, 101, 116]⟩ : ByteArray)).data.toList = [108, 101, 116] from rfl] at hK
   have HS := ld hS
   clear hS
   refine ld ?_
   go_wp2_with (go_at_call 64; refine hK.mono ?_; rintro e x9 ⟨rfl, hPx, hgx⟩; refine Hid.out ?_)
   have hS := HS.out.on hgx hPx
   clear HS hK hPx hgx
   (try clear z0 z1 z2 z3 z4 z5 zf)
   obtain ⟨z0, z1, z2, z3, z4, z5, zf⟩ := rcells_6 (show x9.heap[w1.heap.size]? = some (.cells #[.string ⟨nx.toArray⟩, .slice none 0 0, .slice p2a p2n p2c, .slice p3a p3n p3c, .slice none 0 0, .int .i64 (ya : Int)] 31 (0, 0)) from hS.row)
   cases hex : Gram.Rf.items T f [] (Gram.Rf.take T [108, 101, 116] t3) with
   | none => rw [HT6.out, hex] at hf; cases hf
   | some r =>
   obtain ⟨l4, t4⟩ := r
   have hK := ritems_any b g cap T f hC (Gram.Rf.take T [108, 101, 116] t3) _ hS.pa (by rw [hex]; rfl)
   simp only [hex, rlPost] at hK
   have HT7 : Hid (R = some (⟨nx, [], l2, l3, l4, (ya : Int)⟩, Gram.Rf.take T [116, 101, 108] t4)) := by show _ = _; rw [HT6.out, hex]; rfl
   clear HT6 hex
   have HS := ld hS
   clear hS
   refine ld ?_
   go_wp2_with (go_at_call 69; refine hK.mono ?_; rintro e x10 ⟨vx, rfl, hkx, hPx, hgx⟩; obtain ⟨p4a, p4n, p4c, rfl⟩ := hkx.form; refine Hid.out ?_)
   have hS := HS.out.on hgx hPx
   have hqx := HS.out.ql
   (try clear z0 z1 z2 z3 z4 z5 zf)
   obtain ⟨z0, z1, z2, z3, z4, z5, zf⟩ := rcells_6 (show x10.heap[w1.heap.size]? = some (.cells #[.string ⟨nx.toArray⟩, .slice none 0 0, .slice p2a p2n p2c, .slice p3a p3n p3c, .slice none 0 0, .int .i64 (ya : Int)] 31 (0, 0)) from hS.row)
   have hS : Sr (w.alloc rnod0) (x10.setCell ⟨w1.heap.size, 4, none⟩ (.slice p4a p4n p4c)) b g cap T w1.heap.size t4 31 [.c (.string ⟨nx.toArray⟩), .l 112 5 [], .l 112 5 (l2.map varD), .l 112 5 (l3.map varD), .l 40 12 (l4.map itemD), .c (.int .i64 (ya : Int))] [.string ⟨nx.toArray⟩, .slice none 0 0, .slice p2a p2n p2c, .slice p3a p3n p3c, .slice p4a p4n p4c, .int .i64 (ya : Int)] := hS.set 4 (hkx.mono (Nat.succ_le_of_lt hqx)).rep
   clear HS hK hPx hgx hqx hkx
   have hK := rtake_any b g cap T t4 ⟨#[116, 101, 108]⟩ _ hS.pa
   rw [show ((⟨#[116, 101, 108]⟩ : ByteArray)).data.toList = [116, 101, 108] from rfl] at hK
   have HS := ld hS
   clear hS
   refine ld ?_
   go_wp2_with (go_at_call 64; refine hK.mono ?_; rintro e x11 ⟨rfl, hPx, hgx⟩; refine Hid.out ?_)
   have hS := HS.out.on hgx hPx
   clear HS hK hPx hgx
   (try clear z0 z1 z2 z3 z4 z5 zf)
   obtain ⟨z0, z1, z2, z3, z4, z5, zf⟩ := rcells_6 (show x11.heap[w1.heap.size]? = some (.cells #[.string ⟨nx.toArray⟩, .slice none 0 0, .slice p2a p2n p2c, .slice p3a p3n p3c, .slice p4a p4n p4c, .int .i64 (ya : Int)] 31 (0, 0)) from hS.row)
   have hgA := hS.gr
   have HSE := ld hS
   clear hS
   refine ld ?_
   go_wp2_with (with_reducible refine hold_st 2 ?_)
   refine ld ?_
   refine sg ((hgA.block w.heap.size (by simp) (by simp; omega)).trans (heap_alloc_new w rnod0)) ?_
   intro w7 hh7 hg7
   go_wp2
   (try simp only [Exit.inBlock, Exit.then])
   refine br hh7 Tryz.underlying31 ?_
   have hG : w.grownBy w7 (some b) := ((grown_some (ga w rnod0 none) b).trans hgA).andThen hg7 (fun j e => .inl (by cases e; exact Nat.le_refl _))
   obtain ⟨hkk, hss⟩ := HSE.out.ends hg7 (by simp) (by omega)
   rw [HT7.out]
   refine ⟨_, rfl, ?_, HH.out.to hG hss HSE.out.pa.lt, hG⟩
   simpa only [nodeD, itemsD_map, List.map_nil] using hkk
  | false =>
   rw [hq, if_neg (by decide)] at hMb
   have HT5 : Hid (R = Gram.Rf.bindS (Gram.Rf.items T f [] (Gram.Rf.take T [108, 101, 116] (Gram.Rf.take T [41] t2))) fun its s1 => some (⟨nx, [], l2, [], its, (ya : Int)⟩, Gram.Rf.take T [116, 101, 108] s1)) := by show _ = _; rw [HT4.out, hq, if_neg (by decide)]; rfl
   clear HT4
   refine ld ?_
   go_wp2_with (go_at_call 67; refine hMb.mono ?_; rintro e xm ⟨rfl, hPx, hgx⟩; refine Hid.out ?_)
   have hS := HS4.out.on hgx hPx
   clear hMb hPx hgx HS4
   (try clear z0 z1 z2 z3 z4 z5 zf)
   obtain ⟨z0, z1, z2, z3, z4, z5, zf⟩ := rcells_6 (show xm.heap[w1.heap.size]? = some (.cells #[.string ⟨nx.toArray⟩, .slice none 0 0, .slice p2a p2n p2c, .slice none 0 0, .slice none 0 0, .int .i64 (ya : Int)] 31 (0, 0)) from hS.row)
   have hK := rtake_any b g cap T (Gram.Rf.take T [41] t2) ⟨#[108, 101, 116]⟩ _ hS.pa
   rw [show ((⟨#[108, 101, 116]⟩ : ByteArray)).data.toList = [108, 101, 116] from rfl] at hK
   have HS := ld hS
   clear hS
   refine ld ?_
   go_wp2_with (go_at_call 64; refine hK.mono ?_; rintro e x12 ⟨rfl, hPx, hgx⟩; refine Hid.out ?_)
   have hS := HS.out.on hgx hPx
   clear HS hK hPx hgx
   (try clear z0 z1 z2 z3 z4 z5 zf)
   obtain ⟨z0, z1, z2, z3, z4, z5, zf⟩ := rcells_6 (show x12.heap[w1.heap.size]? = some (.cells #[.string ⟨nx.toArray⟩, .slice none 0 0, .slice p2a p2n p2c, .slice none 0 0, .slice none 0 0, .int .i64 (ya : Int)] 31 (0, 0)) from hS.row)
   cases hex : Gram.Rf.items T f [] (Gram.Rf.take T [108, 101, 116] (Gram.Rf.take T [41] t2)) with
   | none => rw [HT5.out, hex] at hf; cases hf
   | some r =>
   obtain ⟨l4, t4⟩ := r
   have hK := ritems_any b g cap T f hC (Gram.Rf.take T [108, 101, 116] (Gram.Rf.take T [41] t2)) _ hS.pa (by rw [hex]; rfl)
   simp only [hex, rlPost] at hK
   have HT7 : Hid (R = some (⟨nx, [], l2, [], l4, (ya : Int)⟩, Gram.Rf.take T [116, 101, 108] t4)) := by show _ = _; rw [HT5.out, hex]; rfl
   clear HT5 hex
   have HS := ld hS
   clear hS
   refine ld ?_
   go_wp2_with (go_at_call 69; refine hK.mono ?_; rintro e x13 ⟨vx, rfl, hkx, hPx, hgx⟩; obtain ⟨p4a, p4n, p4c, rfl⟩ := hkx.form; refine Hid.out ?_)
   have hS := HS.out.on hgx hPx
   have hqx := HS.out.ql
   (try clear z0 z1 z2 z3 z4 z5 zf)
   obtain ⟨z0, z1, z2, z3, z4, z5, zf⟩ := rcells_6 (show x13.heap[w1.heap.size]? = some (.cells #[.string ⟨nx.toArray⟩, .slice none 0 0, .slice p2a p2n p2c, .slice none 0 0, .slice none 0 0, .int .i64 (ya : Int)] 31 (0, 0)) from hS.row)
   have hS : Sr (w.alloc rnod0) (x13.setCell ⟨w1.heap.size, 4, none⟩ (.slice p4a p4n p4c)) b g cap T w1.heap.size t4 31 [.c (.string ⟨nx.toArray⟩), .l 112 5 [], .l 112 5 (l2.map varD), .l 112 5 [], .l 40 12 (l4.map itemD), .c (.int .i64 (ya : Int))] [.string ⟨nx.toArray⟩, .slice none 0 0, .slice p2a p2n p2c, .slice none 0 0, .slice p4a p4n p4c, .int .i64 (ya : Int)] := hS.set 4 (hkx.mono (Nat.succ_le_of_lt hqx)).rep
   clear HS hK hPx hgx hqx hkx
   have hK := rtake_any b g cap T t4 ⟨#[116, 101, 108]⟩ _ hS.pa
   rw [show ((⟨#[116, 101, 108]⟩ : ByteArray)).data.toList = [116, 101, 108] from rfl] at hK
   have HS := ld hS
   clear hS
   refine ld ?_
   go_wp2_with (go_at_call 64; refine hK.mono ?_; rintro e x14 ⟨rfl, hPx, hgx⟩; refine Hid.out ?_)
   have hS := HS.out.on hgx hPx
   clear HS hK hPx hgx
   (try clear z0 z1 z2 z3 z4 z5 zf)
   obtain ⟨z0, z1, z2, z3, z4, z5, zf⟩ := rcells_6 (show x14.heap[w1.heap.size]? = some (.cells #[.string ⟨nx.toArray⟩, .slice none 0 0, .slice p2a p2n p2c, .slice none 0 0, .slice p4a p4n p4c, .int .i64 (ya : Int)] 31 (0, 0)) from hS.row)
   have hgA := hS.gr
   have HSE := ld hS
   clear hS
   refine ld ?_
   go_wp2_with (with_reducible refine hold_st 2 ?_)
   refine ld ?_
   refine sg ((hgA.block w.heap.size (by simp) (by simp; omega)).trans (heap_alloc_new w rnod0)) ?_
   intro w7 hh7 hg7
   go_wp2
   (try simp only [Exit.inBlock, Exit.then])
   refine br hh7 Tryz.underlying31 ?_
   have hG : w.grownBy w7 (some b) := ((grown_some (ga w rnod0 none) b).trans hgA).andThen hg7 (fun j e => .inl (by cases e; exact Nat.le_refl _))
   obtain ⟨hkk, hss⟩ := HSE.out.ends hg7 (by simp) (by omega)
   rw [HT7.out]
   refine ⟨_, rfl, ?_, HH.out.to hG hss HSE.out.pa.lt, hG⟩
   simpa only [nodeD, itemsD_map, List.map_nil] using hkk
 | false =>
  rw [hqi] at hMi
  have HT2 : Hid (R = Gram.Rf.bindS (Gram.Rf.decls T f (Gram.Rf.take T [40] t0)) fun ins s1 => Gram.Rf.bindS (Gram.Rf.decls T f (Gram.Rf.take T [40] (Gram.Rf.take T [114, 101, 116, 117, 114, 110, 115] (Gram.Rf.take T [41] s1)))) fun outs s1 => Gram.Rf.bindS (if Gram.Rf.is T [118, 97, 114] (Gram.Rf.take T [41] s1) then Gram.Rf.localsL T f [] (Gram.Rf.adv (Gram.Rf.take T [41] s1)) else some ([], (Gram.Rf.take T [41] s1))) fun ls s1 => Gram.Rf.bindS (Gram.Rf.items T f [] (Gram.Rf.take T [108, 101, 116] s1)) fun its s1 => some (⟨nx, ins, outs, ls, its, (ya : Int)⟩, Gram.Rf.take T [116, 101, 108] s1)) := by show _ = _; rw [HT1.out, hqi, if_neg (by decide)]
  clear HT1
  refine ld ?_
  go_wp2_with (go_at_call 46; refine hMi.mono ?_; rintro e xi ⟨rfl, hgx⟩; refine Hid.out ?_)
  have hS := HS3.out.kept0 hgx
  clear hMi hgx HS3
  (try clear z0 z1 z2 z3 z4 z5 zf)
  obtain ⟨z0, z1, z2, z3, z4, z5, zf⟩ := rcells_6 (show xi.heap[w1.heap.size]? = some (.cells #[.string ⟨nx.toArray⟩, .slice none 0 0, .slice none 0 0, .slice none 0 0, .slice none 0 0, .int .i64 (ya : Int)] 31 (0, 0)) from hS.row)
  cases hex : Gram.Rf.decls T f (Gram.Rf.take T [40] t0) with
  | none => rw [HT2.out, hex] at hf; cases hf
  | some r =>
  obtain ⟨l1, t1⟩ := r
  have hK := rdecls_any b g cap T f (Gram.Rf.take T [40] t0) _ hS.pa (by rw [hex]; rfl)
  simp only [hex, rlPost] at hK
  have HT3 : Hid (R = Gram.Rf.bindS (Gram.Rf.decls T f (Gram.Rf.take T [40] (Gram.Rf.take T [114, 101, 116, 117, 114, 110, 115] (Gram.Rf.take T [41] t1)))) fun outs s1 => Gram.Rf.bindS (if Gram.Rf.is T [118, 97, 114] (Gram.Rf.take T [41] s1) then Gram.Rf.localsL T f [] (Gram.Rf.adv (Gram.Rf.take T [41] s1)) else some ([], (Gram.Rf.take T [41] s1))) fun ls s1 => Gram.Rf.bindS (Gram.Rf.items T f [] (Gram.Rf.take T [108, 101, 116] s1)) fun its s1 => some (⟨nx, l1, outs, ls, its, (ya : Int)⟩, Gram.Rf.take T [116, 101, 108] s1)) := by show _ = _; rw [HT2.out, hex]; rfl
  clear HT2 hex
  have HS := ld hS
  clear hS
  refine ld ?_
  go_wp2_with (go_at_call 66; refine hK.mono ?_; rintro e x15 ⟨vx, rfl, hkx, hPx, hgx⟩; obtain ⟨p1a, p1n, p1c, rfl⟩ := hkx.form; refine Hid.out ?_)
  have hS := HS.out.on hgx hPx
  have hqx := HS.out.ql
  (try clear z0 z1 z2 z3 z4 z5 zf)
  obtain ⟨z0, z1, z2, z3, z4, z5, zf⟩ := rcells_6 (show x15.heap[w1.heap.size]? = some (.cells #[.string ⟨nx.toArray⟩, .slice none 0 0, .slice none 0 0, .slice none 0 0, .slice none 0 0, .int .i64 (ya : Int)] 31 (0, 0)) from hS.row)
  have hS : Sr (w.alloc rnod0) (x15.setCell ⟨w1.heap.size, 1, none⟩ (.slice p1a p1n p1c)) b g cap T w1.heap.size t1 31 [.c (.string ⟨nx.toArray⟩), .l 112 5 (l1.map varD), .l 112 5 [], .l 112 5 [], .l 40 12 [], .c (.int .i64 (ya : Int))] [.string ⟨nx.toArray⟩, .slice p1a p1n p1c, .slice none 0 0, .slice none 0 0, .slice none 0 0, .int .i64 (ya : Int)] := hS.set 1 (hkx.mono (Nat.succ_le_of_lt hqx)).rep
  clear HS hK hPx hgx hqx hkx
  have hK := rtake_any b g cap T t1 ⟨#[41]⟩ _ hS.pa
  rw [show ((⟨#[41]⟩ : ByteArray)).data.toList = [41] from rfl] at hK
  have HS := ld hS
  clear hS
  refine ld ?_
  go_wp2_with (go_at_call 64; refine hK.mono ?_; rintro e x16 ⟨rfl, hPx, hgx⟩; refine Hid.out ?_)
  have hS := HS.out.on hgx hPx
  clear HS hK hPx hgx
  (try clear z0 z1 z2 z3 z4 z5 zf)
  obtain ⟨z0, z1, z2, z3, z4, z5, zf⟩ := rcells_6 (show x16.heap[w1.heap.size]? = some (.cells #[.string ⟨nx.toArray⟩, .slice p1a p1n p1c, .slice none 0 0, .slice none 0 0, .slice none 0 0, .int .i64 (ya : Int)] 31 (0, 0)) from hS.row)
  have hK := rtake_any b g cap T (Gram.Rf.take T [41] t1) ⟨#[114, 101, 116, 117, 114, 110, 115]⟩ _ hS.pa
  rw [show ((⟨#[114, 101, 116, 117, 114, 110, 115]⟩ : ByteArray)).data.toList = [114, 101, 116, 117, 114, 110, 115] from rfl] at hK
  have HS := ld hS
  clear hS
  refine ld ?_
  go_wp2_with (go_at_call 64; refine hK.mono ?_; rintro e x17 ⟨rfl, hPx, hgx⟩; refine Hid.out ?_)
  have hS := HS.out.on hgx hPx
  clear HS hK hPx hgx
  (try clear z0 z1 z2 z3 z4 z5 zf)
  obtain ⟨z0, z1, z2, z3, z4, z5, zf⟩ := rcells_6 (show x17.heap[w1.heap.size]? = some (.cells #[.string ⟨nx.toArray⟩, .slice p1a p1n p1c, .slice none 0 0, .slice none 0 0, .slice none 0 0, .int .i64 (ya : Int)] 31 (0, 0)) from hS.row)
  have hK := rtake_any b g cap T (Gram.Rf.take T [114, 101, 116, 117, 114, 110, 115] (Gram.Rf.take T [41] t1)) ⟨#[40]⟩ _ hS.pa
  rw [show ((⟨#[40]⟩ : ByteArray)).data.toList = [40] from rfl] at hK
  have HS := ld hS
  clear hS
  refine ld ?_
  go_wp2_with (go_at_call 64; refine hK.mono ?_; rintro e x18 ⟨rfl, hPx, hgx⟩; refine Hid.out ?_)
  have hS := HS.out.on hgx hPx
  clear HS hK hPx hgx
  (try clear z0 z1 z2 z3 z4 z5 zf)
  obtain ⟨z0, z1, z2, z3, z4, z5, zf⟩ := rcells_6 (show x18.heap[w1.heap.size]? = some (.cells #[.string ⟨nx.toArray⟩, .slice p1a p1n p1c, .slice none 0 0, .slice none 0 0, .slice none 0 0, .int .i64 (ya : Int)] 31 (0, 0)) from hS.row)
  cases hex : Gram.Rf.decls T f (Gram.Rf.take T [40] (Gram.Rf.take T [114, 101, 116, 117, 114, 110, 115] (Gram.Rf.take T [41] t1))) with
  | none => rw [HT3.out, hex] at hf; cases hf
  | some r =>
  obtain ⟨l2, t2⟩ := r
  have hK := rdecls_any b g cap T f (Gram.Rf.take T [40] (Gram.Rf.take T [114, 101, 116, 117, 114, 110, 115] (Gram.Rf.take T [41] t1))) _ hS.pa (by rw [hex]; rfl)
  simp only [hex, rlPost] at hK
  have HT4 : Hid (R = Gram.Rf.bindS (if Gram.Rf.is T [118, 97, 114] (Gram.Rf.take T [41] t2) then Gram.Rf.localsL T f [] (Gram.Rf.adv (Gram.Rf.take T [41] t2)) else some ([], (Gram.Rf.take T [41] t2))) fun ls s1 => Gram.Rf.bindS (Gram.Rf.items T f [] (Gram.Rf.take T [108, 101, 116] s1)) fun its s1 => some (⟨nx, l1, l2, ls, its, (ya : Int)⟩, Gram.Rf.take T [116, 101, 108] s1)) := by show _ = _; rw [HT3.out, hex]; rfl
  clear HT3 hex
  have HS := ld hS
  clear hS
  refine ld ?_
  go_wp2_with (go_at_call 66; refine hK.mono ?_; rintro e x19 ⟨vx, rfl, hkx, hPx, hgx⟩; obtain ⟨p2a, p2n, p2c, rfl⟩ := hkx.form; refine Hid.out ?_)
  have hS := HS.out.on hgx hPx
  have hqx := HS.out.ql
  (try clear z0 z1 z2 z3 z4 z5 zf)
  obtain ⟨z0, z1, z2, z3, z4, z5, zf⟩ := rcells_6 (show x19.heap[w1.heap.size]? = some (.cells #[.string ⟨nx.toArray⟩, .slice p1a p1n p1c, .slice none 0 0, .slice none 0 0, .slice none 0 0, .int .i64 (ya : Int)] 31 (0, 0)) from hS.row)
  have hS : Sr (w.alloc rnod0) (x19.setCell ⟨w1.heap.size, 2, none⟩ (.slice p2a p2n p2c)) b g cap T w1.heap.size t2 31 [.c (.string ⟨nx.toArray⟩), .l 112 5 (l1.map varD), .l 112 5 (l2.map varD), .l 112 5 [], .l 40 12 [], .c (.int .i64 (ya : Int))] [.string ⟨nx.toArray⟩, .slice p1a p1n p1c, .slice p2a p2n p2c, .slice none 0 0, .slice none 0 0, .int .i64 (ya : Int)] := hS.set 2 (hkx.mono (Nat.succ_le_of_lt hqx)).rep
  clear HS hK hPx hgx hqx hkx
  have hK := rtake_any b g cap T t2 ⟨#[41]⟩ _ hS.pa
  rw [show ((⟨#[41]⟩ : ByteArray)).data.toList = [41] from rfl] at hK
  have HS := ld hS
  clear hS
  refine ld ?_
  go_wp2_with (go_at_call 64; refine hK.mono ?_; rintro e x20 ⟨rfl, hPx, hgx⟩; refine Hid.out ?_)
  have hS := HS.out.on hgx hPx
  clear HS hK hPx hgx
  (try clear z0 z1 z2 z3 z4 z5 zf)
  obtain ⟨z0, z1, z2, z3, z4, z5, zf⟩ := rcells_6 (show x20.heap[w1.heap.size]? = some (.cells #[.string ⟨nx.toArray⟩, .slice p1a p1n p1c, .slice p2a p2n p2c, .slice none 0 0, .slice none 0 0, .int .i64 (ya : Int)] 31 (0, 0)) from hS.row)
  have hMb := rmaybe_any b g cap T (Gram.Rf.take T [41] t2) ⟨#[118, 97, 114]⟩ _ hS.pa
  unfold Gram.Rf.maybe at hMb
  rw [show ((⟨#[118, 97, 114]⟩ : ByteArray)).data.toList = [118, 97, 114] from rfl] at hMb
  have HS4 := ld hS
  clear hS
  cases hq : Gram.Rf.is T [118, 97, 114] (Gram.Rf.take T [41] t2) with
  | true =>
   rw [hq, if_pos rfl] at hMb
   have HT5 : Hid (R = Gram.Rf.bindS (Gram.Rf.localsL T f [] (Gram.Rf.adv (Gram.Rf.take T [41] t2))) fun ls s1 => Gram.Rf.bindS (Gram.Rf.items T f [] (Gram.Rf.take T [108, 101, 116] s1)) fun its s1 => some (⟨nx, l1, l2, ls, its, (ya : Int)⟩, Gram.Rf.take T [116, 101, 108] s1)) := by show _ = _; rw [HT4.out, hq, if_pos rfl]
   clear HT4
   refine ld ?_
   go_wp2_with (go_at_call 67; refine hMb.mono ?_; rintro e xm ⟨rfl, hPx, hgx⟩; refine Hid.out ?_)
   have hS := HS4.out.on hgx hPx
   clear hMb hPx hgx HS4
   (try clear z0 z1 z2 z3 z4 z5 zf)
   obtain ⟨z0, z1, z2, z3, z4, z5, zf⟩ := rcells_6 (show xm.heap[w1.heap.size]? = some (.cells #[.string ⟨nx.toArray⟩, .slice p1a p1n p1c, .slice p2a p2n p2c, .slice none 0 0, .slice none 0 0, .int .i64 (ya : Int)] 31 (0, 0)) from hS.row)
   cases hex : Gram.Rf.localsL T f [] (Gram.Rf.adv (Gram.Rf.take T [41] t2)) with
   | none => rw [HT5.out, hex] at hf; cases hf
   | some r =>
   obtain ⟨l3, t3⟩ := r
   have hK := rlocals_any b g cap T f (Gram.Rf.adv (Gram.Rf.take T [41] t2)) _ hS.pa (by rw [hex]; rfl)
   simp only [hex, rlPost] at hK
   have HT6 : Hid (R = Gram.Rf.bindS (Gram.Rf.items T f [] (Gram.Rf.take T [108, 101, 116] t3)) fun its s1 => some (⟨nx, l1, l2, l3, its, (ya : Int)⟩, Gram.Rf.take T [116, 101, 108] s1)) := by show _ = _; rw [HT5.out, hex]; rfl
   clear HT5 hex
   have HS := ld hS
   clear hS
   refine ld ?_
   go_wp2_with (go_at_call 68; refine hK.mono ?_; rintro e x21 ⟨vx, rfl, hkx, hPx, hgx⟩; obtain ⟨p3a, p3n, p3c, rfl⟩ := hkx.form; refine Hid.out ?_)
   have hS := HS.out.on hgx hPx
   have hqx := HS.out.ql
   (try clear z0 z1 z2 z3 z4 z5 zf)
   obtain ⟨z0, z1, z2, z3, z4, z5, zf⟩ := rcells_6 (show x21.heap[w1.heap.size]? = some (.cells #[.string ⟨nx.toArray⟩, .slice p1a p1n p1c, .slice p2a p2n p2c, .slice none 0 0, .slice none 0 0, .int .i64 (ya : Int)] 31 (0, 0)) from hS.row)
   have hS : Sr (w.alloc rnod0) (x21.setCell ⟨w1.heap.size, 3, none⟩ (.slice p3a p3n p3c)) b g cap T w1.heap.size t3 31 [.c (.string ⟨nx.toArray⟩), .l 112 5 (l1.map varD), .l 112 5 (l2.map varD), .l 112 5 (l3.map varD), .l 40 12 [], .c (.int .i64 (ya : Int))] [.string ⟨nx.toArray⟩, .slice p1a p1n p1c, .slice p2a p2n p2c, .slice p3a p3n p3c, .slice none 0 0, .int .i64 (ya : Int)] := hS.set 3 (hkx.mono (Nat.succ_le_of_lt hqx)).rep
   clear HS hK hPx hgx hqx hkx
   have hK := rtake_any b g cap T t3 ⟨#[108, 101, 116]⟩ _ hS.pa
   rw [show ((⟨#[108, 101, 116]⟩ : ByteArray)).data.toList = [108, 101, 116] from rfl] at hK
   have HS := ld hS
   clear hS
   refine ld ?_
   go_wp2_with (go_at_call 64; refine hK.mono ?_; rintro e x22 ⟨rfl, hPx, hgx⟩; refine Hid.out ?_)
   have hS := HS.out.on hgx hPx
   clear HS hK hPx hgx
   (try clear z0 z1 z2 z3 z4 z5 zf)
   obtain ⟨z0, z1, z2, z3, z4, z5, zf⟩ := rcells_6 (show x22.heap[w1.heap.size]? = some (.cells #[.string ⟨nx.toArray⟩, .slice p1a p1n p1c, .slice p2a p2n p2c, .slice p3a p3n p3c, .slice none 0 0, .int .i64 (ya : Int)] 31 (0, 0)) from hS.row)
   cases hex : Gram.Rf.items T f [] (Gram.Rf.take T [108, 101, 116] t3) with
   | none => rw [HT6.out, hex] at hf; cases hf
   | some r =>
   obtain ⟨l4, t4⟩ := r
   have hK := ritems_any b g cap T f hC (Gram.Rf.take T [108, 101, 116] t3) _ hS.pa (by rw [hex]; rfl)
   simp only [hex, rlPost] at hK
   have HT7 : Hid (R = some (⟨nx, l1, l2, l3, l4, (ya : Int)⟩, Gram.Rf.take T [116, 101, 108] t4)) := by show _ = _; rw [HT6.out, hex]; rfl
   clear HT6 hex
   have HS := ld hS
   clear hS
   refine ld ?_
   go_wp2_with (go_at_call 69; refine hK.mono ?_; rintro e x23 ⟨vx, rfl, hkx, hPx, hgx⟩; obtain ⟨p4a, p4n, p4c, rfl⟩ := hkx.form; refine Hid.out ?_)
   have hS := HS.out.on hgx hPx
   have hqx := HS.out.ql
   (try clear z0 z1 z2 z3 z4 z5 zf)
   obtain ⟨z0, z1, z2, z3, z4, z5, zf⟩ := rcells_6 (show x23.heap[w1.heap.size]? = some (.cells #[.string ⟨nx.toArray⟩, .slice p1a p1n p1c, .slice p2a p2n p2c, .slice p3a p3n p3c, .slice none 0 0, .int .i64 (ya : Int)] 31 (0, 0)) from hS.row)
   have hS : Sr (w.alloc rnod0) (x23.setCell ⟨w1.heap.size, 4, none⟩ (.slice p4a p4n p4c)) b g cap T w1.heap.size t4 31 [.c (.string ⟨nx.toArray⟩), .l 112 5 (l1.map varD), .l 112 5 (l2.map varD), .l 112 5 (l3.map varD), .l 40 12 (l4.map itemD), .c (.int .i64 (ya : Int))] [.string ⟨nx.toArray⟩, .slice p1a p1n p1c, .slice p2a p2n p2c, .slice p3a p3n p3c, .slice p4a p4n p4c, .int .i64 (ya : Int)] := hS.set 4 (hkx.mono (Nat.succ_le_of_lt hqx)).rep
   clear HS hK hPx hgx hqx hkx
   have hK := rtake_any b g cap T t4 ⟨#[116, 101, 108]⟩ _ hS.pa
   rw [show ((⟨#[116, 101, 108]⟩ : ByteArray)).data.toList = [116, 101, 108] from rfl] at hK
   have HS := ld hS
   clear hS
   refine ld ?_
   go_wp2_with (go_at_call 64; refine hK.mono ?_; rintro e x24 ⟨rfl, hPx, hgx⟩; refine Hid.out ?_)
   have hS := HS.out.on hgx hPx
   clear HS hK hPx hgx
   (try clear z0 z1 z2 z3 z4 z5 zf)
   obtain ⟨z0, z1, z2, z3, z4, z5, zf⟩ := rcells_6 (show x24.heap[w1.heap.size]? = some (.cells #[.string ⟨nx.toArray⟩, .slice p1a p1n p1c, .slice p2a p2n p2c, .slice p3a p3n p3c, .slice p4a p4n p4c, .int .i64 (ya : Int)] 31 (0, 0)) from hS.row)
   have hgA := hS.gr
   have HSE := ld hS
   clear hS
   refine ld ?_
   go_wp2_with (with_reducible refine hold_st 2 ?_)
   refine ld ?_
   refine sg ((hgA.block w.heap.size (by simp) (by simp; omega)).trans (heap_alloc_new w rnod0)) ?_
   intro w7 hh7 hg7
   go_wp2
   (try simp only [Exit.inBlock, Exit.then])
   refine br hh7 Tryz.underlying31 ?_
   have hG : w.grownBy w7 (some b) := ((grown_some (ga w rnod0 none) b).trans hgA).andThen hg7 (fun j e => .inl (by cases e; exact Nat.le_refl _))
   obtain ⟨hkk, hss⟩ := HSE.out.ends hg7 (by simp) (by omega)
   rw [HT7.out]
   refine ⟨_, rfl, ?_, HH.out.to hG hss HSE.out.pa.lt, hG⟩
   simpa only [nodeD, itemsD_map, List.map_nil] using hkk
  | false =>
   rw [hq, if_neg (by decide)] at hMb
   have HT5 : Hid (R = Gram.Rf.bindS (Gram.Rf.items T f [] (Gram.Rf.take T [108, 101, 116] (Gram.Rf.take T [41] t2))) fun its s1 => some (⟨nx, l1, l2, [], its, (ya : Int)⟩, Gram.Rf.take T [116, 101, 108] s1)) := by show _ = _; rw [HT4.out, hq, if_neg (by decide)]; rfl
   clear HT4
   refine ld ?_
   go_wp2_with (go_at_call 67; refine hMb.mono ?_; rintro e xm ⟨rfl, hPx, hgx⟩; refine Hid.out ?_)
   have hS := HS4.out.on hgx hPx
   clear hMb hPx hgx HS4
   (try clear z0 z1 z2 z3 z4 z5 zf)
   obtain ⟨z0, z1, z2, z3, z4, z5, zf⟩ := rcells_6 (show xm.heap[w1.heap.size]? = some (.cells #[.string ⟨nx.toArray⟩, .slice p1a p1n p1c, .slice p2a p2n p2c, .slice none 0 0, .slice none 0 0, .int .i64 (ya : Int)] 31 (0, 0)) from hS.row)
   have hK := rtake_any b g cap T (Gram.Rf.take T [41] t2) ⟨#[108, 101, 116]⟩ _ hS.pa
   rw [show ((⟨#[108, 101, 116]⟩ : ByteArray)).data.toList = [108, 101, 116] from rfl] at hK
   have HS := ld hS
   clear hS
   refine ld ?_
   go_wp2_with (go_at_call 64; refine hK.mono ?_; rintro e x25 ⟨rfl, hPx, hgx⟩; refine Hid.out ?_)
   have hS := HS.out.on hgx hPx
   clear HS hK hPx hgx
   (try clear z0 z1 z2 z3 z4 z5 zf)
   obtain ⟨z0, z1, z2, z3, z4, z5, zf⟩ := rcells_6 (show x25.heap[w1.heap.size]? = some (.cells #[.string ⟨nx.toArray⟩, .slice p1a p1n p1c, .slice p2a p2n p2c, .slice none 0 0, .slice none 0 0, .int .i64 (ya : Int)] 31 (0, 0)) from hS.row)
   cases hex : Gram.Rf.items T f [] (Gram.Rf.take T [108, 101, 116] (Gram.Rf.take T [41] t2)) with
   | none => rw [HT5.out, hex] at hf; cases hf
   | some r =>
   obtain ⟨l4, t4⟩ := r
   have hK := ritems_any b g cap T f hC (Gram.Rf.take T [108, 101, 116] (Gram.Rf.take T [41] t2)) _ hS.pa (by rw [hex]; rfl)
   simp only [hex, rlPost] at hK
   have HT7 : Hid (R = some (⟨nx, l1, l2, [], l4, (ya : Int)⟩, Gram.Rf.take T [116, 101, 108] t4)) := by show _ = _; rw [HT5.out, hex]; rfl
   clear HT5 hex
   have HS := ld hS
   clear hS
   refine ld ?_
   go_wp2_with (go_at_call 69; refine hK.mono ?_; rintro e x26 ⟨vx, rfl, hkx, hPx, hgx⟩; obtain ⟨p4a, p4n, p4c, rfl⟩ := hkx.form; refine Hid.out ?_)
   have hS := HS.out.on hgx hPx
   have hqx := HS.out.ql
   (try clear z0 z1 z2 z3 z4 z5 zf)
   obtain ⟨z0, z1, z2, z3, z4, z5, zf⟩ := rcells_6 (show x26.heap[w1.heap.size]? = some (.cells #[.string ⟨nx.toArray⟩, .slice p1a p1n p1c, .slice p2a p2n p2c, .slice none 0 0, .slice none 0 0, .int .i64 (ya : Int)] 31 (0, 0)) from hS.row)
   have hS : Sr (w.alloc rnod0) (x26.setCell ⟨w1.heap.size, 4, none⟩ (.slice p4a p4n p4c)) b g cap T w1.heap.size t4 31 [.c (.string ⟨nx.toArray⟩), .l 112 5 (l1.map varD), .l 112 5 (l2.map varD), .l 112 5 [], .l 40 12 (l4.map itemD), .c (.int .i64 (ya : Int))] [.string ⟨nx.toArray⟩, .slice p1a p1n p1c, .slice p2a p2n p2c, .slice none 0 0, .slice p4a p4n p4c, .int .i64 (ya : Int)] := hS.set 4 (hkx.mono (Nat.succ_le_of_lt hqx)).rep
   clear HS hK hPx hgx hqx hkx
   have hK := rtake_any b g cap T t4 ⟨#[116, 101, 108]⟩ _ hS.pa
   rw [show ((⟨#[116, 101, 108]⟩ : ByteArray)).data.toList = [116, 101, 108] from rfl] at hK
   have HS := ld hS
   clear hS
   refine ld ?_
   go_wp2_with (go_at_call 64; refine hK.mono ?_; rintro e x27 ⟨rfl, hPx, hgx⟩; refine Hid.out ?_)
   have hS := HS.out.on hgx hPx
   clear HS hK hPx hgx
   (try clear z0 z1 z2 z3 z4 z5 zf)
   obtain ⟨z0, z1, z2, z3, z4, z5, zf⟩ := rcells_6 (show x27.heap[w1.heap.size]? = some (.cells #[.string ⟨nx.toArray⟩, .slice p1a p1n p1c, .slice p2a p2n p2c, .slice none 0 0, .slice p4a p4n p4c, .int .i64 (ya : Int)] 31 (0, 0)) from hS.row)
   have hgA := hS.gr
   have HSE := ld hS
   clear hS
   refine ld ?_
   go_wp2_with (with_reducible refine hold_st 2 ?_)
   refine ld ?_
   refine sg ((hgA.block w.heap.size (by simp) (by simp; omega)).trans (heap_alloc_new w rnod0)) ?_
   intro w7 hh7 hg7
   go_wp2
   (try simp only [Exit.inBlock, Exit.then])
   refine br hh7 Tryz.underlying31 ?_
   have hG : w.grownBy w7 (some b) := ((grown_some (ga w rnod0 none) b).trans hgA).andThen hg7 (fun j e => .inl (by cases e; exact Nat.le_refl _))
   obtain ⟨hkk, hss⟩ := HSE.out.ends hg7 (by simp) (by omega)
   rw [HT7.out]
   refine ⟨_, rfl, ?_, HH.out.to hG hss HSE.out.pa.lt, hG⟩
   simpa only [nodeD, itemsD_map, List.map_nil] using hkk
end
open Go.RowKit Go.Maps Go.WideMaps
def ritm0 : Obj := .cells #[.slice none 0 0, .int .i64 0, .int .i64 0, .string ⟨#[]⟩, .int .i64 0, .int .i64 0, .int .i64 0, .int .i64 0, .slice none 0 0, .int .i64 0, .slice none 0 0, .int .i64 0] 40
section
variable (b g cap : Nat) (T : List Lex.Tk)
theorem ritem_plain (f : Nat) (s : Gram.Rf.St) (w : World) (h : Rp w b g cap T s) (qa : Gram.Rf.is T [97, 117, 116, 111, 109, 97, 116, 111, 110] s = false) (qb : Gram.Rf.is T [40] s = false) (hf : (Gram.Rf.item T (f + 1) s).isSome = true) :
  Calls Tryz.prog 79 #[.pointer (some ⟨b, 0, none⟩)] w fun e w' => r1Post itemD w b g cap T (Gram.Rf.item T (f + 1) s) e w' := by
 have hbw := h.bl
 have hP0 := h.alloc ritm0
 obtain ⟨R, hR⟩ : ∃ R, R = Gram.Rf.item T (f + 1) s := ⟨_, rfl⟩
 rw [← hR] at hf ⊢
 rw [Gram.Rf.item, qa, if_neg (by decide)] at hR
 unfold Gram.Rf.equation at hR
 rw [qb, if_neg (by decide)] at hR
 have hT := rtok_any b g cap T s _ hP0
 generalize Gram.tk T s.i = y at hT hR
 obtain ⟨yk, yt, yn, yu, ya⟩ := y
 have hfd := fldAt ⟨yk, yt, yn, yu, ya⟩
 simp only [tokV] at hT hfd
 have hN := fun wx (hx : Rp wx b g cap T s) => rname_any b g cap T s wx hx
 generalize Gram.Rf.name T s = rr at hN hR
 obtain ⟨nx, t0⟩ := rr
 simp only at hN
 have HT1 : Hid (R = Gram.Rf.bindS (Gram.Rf.exp T f (Gram.Rf.take T [61] t0)) fun e s => some (.mk [nx] e [] (ya : Int), Gram.Rf.take T [59] s)) := hR
 clear hR
 have hIs := fun wx (hx : Rp wx b g cap T s) => ris_any b g cap T s ⟨#[97, 117, 116, 111, 109, 97, 116, 111, 110]⟩ wx hx
 rw [show ((⟨#[97, 117, 116, 111, 109, 97, 116, 111, 110]⟩ : ByteArray)).data.toList = [97, 117, 116, 111, 109, 97, 116, 111, 110] from rfl, qa] at hIs
 have hMb := fun wx (hx : Rp wx b g cap T s) => rmaybe_any b g cap T s ⟨#[40]⟩ wx hx
 unfold Gram.Rf.maybe at hMb
 rw [show ((⟨#[40]⟩ : ByteArray)).data.toList = [40] from rfl, qb, if_neg (by decide)] at hMb
 have HH := ld h
 clear h
 go_enter Tryz.func79, Tryz.ntmps79
 go_wp2_with (go_at_call 45; refine hT.mono ?_; rintro e w1 ⟨rfl, hg1⟩; refine Hid.out ?_)
 have hs1 := hg1.size
 have hS : Sr (w.alloc ritm0) (w1.alloc (.cells #[.slice none 0 0, .int .i64 0, .int .i64 0, .string ⟨#[]⟩, .int .i64 0, .int .i64 0, .int .i64 0, .int .i64 0, .slice none 0 0, .int .i64 0, .slice none 0 0, .int .i64 (ya : Int)] 40)) b g cap T w1.heap.size s 40 [.l 9 1 [], .c (.int .i64 0), .c (.int .i64 0), .c (.string ⟨#[]⟩), .c (.int .i64 0), .c (.int .i64 0), .c (.int .i64 0), .c (.int .i64 0), .l 37 9 [], .c (.int .i64 0), .l 119 6 [], .c (.int .i64 (ya : Int))] [.slice none 0 0, .int .i64 0, .int .i64 0, .string ⟨#[]⟩, .int .i64 0, .int .i64 0, .int .i64 0, .int .i64 0, .slice none 0 0, .int .i64 0, .slice none 0 0, .int .i64 (ya : Int)] :=
  Sr.make ⟨s, hP0⟩ ((hP0.kept hg1).alloc _) (galloc (grown_some hg1 b) _) hs1 (heap_alloc_new w1 _) (.cons (RepC.nil _ _ _ _ _) (.cons (.c _) (.cons (.c _) (.cons (.c _) (.cons (.c _) (.cons (.c _) (.cons (.c _) (.cons (.c _) (.cons (RepC.nil _ _ _ _ _) (.cons (.c _) (.cons (RepC.nil _ _ _ _ _) (.cons (.c _) .nil))))))))))))
 rw [World.size_alloc] at hs1
 clear hT hg1
 have hPq := hS.pa
 have HS := ld hS
 clear hS
 refine ld ?_
 go_wp2_with (first | (go_at_call 46; refine (hIs _ hPq).mono ?_; rintro e wi ⟨rfl, hgi⟩) | (go_at_call 67; refine (hMb _ (hPq.kept hgi)).mono ?_; rintro e wm ⟨rfl, hPm, hgm⟩) | (go_at_call 65; refine (hN _ hPm).mono ?_; rintro e w3 ⟨rfl, hP3, hg3⟩; refine Hid.out ?_))
 have hS3 := ((HS.out.kept0 hgi).on hgm hPm).on hg3 hP3
 have hql3 := hS3.ql
 have hne3 : ¬ w1.heap.size = w3.heap.size := by omega
 have hne3' : ¬ w3.heap.size = w1.heap.size := by omega
 have hS33 := hS3.kept0 (ga w3 (.cells #[.string ⟨nx.toArray⟩] 9) none)
 obtain ⟨z0, z1, z2, z3, z4, z5, z6, z7, z8, z9, z10, z11, zf⟩ := rcells_12 (show w3.heap[w1.heap.size]? = some (.cells #[.slice none 0 0, .int .i64 0, .int .i64 0, .string ⟨#[]⟩, .int .i64 0, .int .i64 0, .int .i64 0, .int .i64 0, .slice none 0 0, .int .i64 0, .slice none 0 0, .int .i64 (ya : Int)] 40 (0, 0)) from hS3.row)
 have hre : RepC (w3.alloc (.cells #[.string ⟨nx.toArray⟩] 9)) (w1.heap.size + 1) [] (.l 9 1 ([nx].map nameD)) (.slice (some ⟨w3.heap.size, 0, none⟩) 1 1) :=
  .l (xs := [.string ⟨nx.toArray⟩]) (owns_new 9 1 1 [.string ⟨nx.toArray⟩] (by omega) rfl (by unfold maxLen; omega)) (fun _ e => by cases e) (.cons (.c _) .nil)
 have hS : Sr (w.alloc ritm0) ((w3.alloc (.cells #[.string ⟨nx.toArray⟩] 9)).setCell ⟨w1.heap.size, 0, none⟩ (.slice (some ⟨w3.heap.size, 0, none⟩) 1 1)) b g cap T w1.heap.size t0 40 [.l 9 1 ([nx].map nameD), .c (.int .i64 0), .c (.int .i64 0), .c (.string ⟨#[]⟩), .c (.int .i64 0), .c (.int .i64 0), .c (.int .i64 0), .c (.int .i64 0), .l 37 9 [], .c (.int .i64 0), .l 119 6 [], .c (.int .i64 (ya : Int))] [.slice (some ⟨w3.heap.size, 0, none⟩) 1 1, .int .i64 0, .int .i64 0, .string ⟨#[]⟩, .int .i64 0, .int .i64 0, .int .i64 0, .int .i64 0, .slice none 0 0, .int .i64 0, .slice none 0 0, .int .i64 (ya : Int)] := hS33.set 0 hre
 have e9 : (w3.alloc (.cells #[.string ⟨nx.toArray⟩] 9)).setCell ⟨w1.heap.size, 0, none⟩ (.slice (some ⟨w3.heap.size, 0, none⟩) 1 1) = (w3.setCell ⟨w1.heap.size, 0, none⟩ (.slice (some ⟨w3.heap.size, 0, none⟩) 1 1)).alloc (.cells #[.string ⟨nx.toArray⟩] 9) := World.setCell_alloc_past _ _ _ _ hql3
 rw [e9] at hS
 clear hS33 hS3 hre hN e9 HS hIs hMb hPm hgm hgi hg3 hP3 hPq
 have hK := rtake_any b g cap T t0 ⟨#[61]⟩ _ hS.pa
 rw [show ((⟨#[61]⟩ : ByteArray)).data.toList = [61] from rfl] at hK
 have HS := ld hS
 clear hS
 refine ld ?_
 go_wp2_with (go_at_call 64; refine hK.mono ?_; rintro e w4 ⟨rfl, hPx, hgx⟩; refine Hid.out ?_)
 have hS4 := HS.out.on hgx hPx
 clear HS hK hPx hgx
 cases hex : Gram.Rf.exp T f (Gram.Rf.take T [61] t0) with
 | none => rw [HT1.out, hex] at hf; cases hf
 | some r =>
 obtain ⟨x, t1⟩ := r
 cases x with
 | mk f1 s1 nm1 tk1 tl1 n1 m1 ks1 a1 =>
 have hc := rexp_any b g cap T f _ _ hS4.pa (by rw [hex]; rfl)
 simp only [hex, rePost, expV] at hc
 have HT2 : Hid (R = some (.mk [nx] (.mk f1 s1 nm1 tk1 tl1 n1 m1 ks1 a1) [] (ya : Int), Gram.Rf.take T [59] t1)) := by show _ = _; rw [HT1.out, hex]; rfl
 have HS4 := ld hS4
 clear hS4 HT1 hex
 refine ld ?_
 go_wp2_with (go_at_call 88; refine hc.mono ?_; rintro e w5 ⟨k5, rfl, hk5, hP5, hg5⟩; obtain ⟨ka, kn, kc, rfl⟩ := hk5.form; refine Hid.out ?_)
 have hS5 := HS4.out.on hg5 hP5
 have hql4 := HS4.out.ql
 (try clear z0 z1 z2 z3 z4 z5 z6 z7 z8 z9 z10 z11 zf)
 obtain ⟨z0, z1, z2, z3, z4, z5, z6, z7, z8, z9, z10, z11, zf⟩ := rcells_12 (show w5.heap[w1.heap.size]? = some (.cells #[.slice (some ⟨w3.heap.size, 0, none⟩) 1 1, .int .i64 0, .int .i64 0, .string ⟨#[]⟩, .int .i64 0, .int .i64 0, .int .i64 0, .int .i64 0, .slice none 0 0, .int .i64 0, .slice none 0 0, .int .i64 (ya : Int)] 40 (0, 0)) from hS5.row)
 have he5 : RepRow w5 (w1.heap.size + 1) [] [.c (.int .i64 f1), .c (.int .i64 s1), .c (.string ⟨nm1.toArray⟩), .c (.int .i64 tk1), .c (.int .i64 tl1), .c (.int .i64 n1), .c (.int .i64 m1), .l 37 9 (expsD ks1), .c (.int .i64 a1)] [.int .i64 f1, .int .i64 s1, .string ⟨nm1.toArray⟩, .int .i64 tk1, .int .i64 tl1, .int .i64 n1, .int .i64 m1, .slice ka kn kc, .int .i64 a1] := by
  have h9 := exp_row (x := (.mk f1 s1 nm1 tk1 tl1 n1 m1 ks1 a1)) (E := []) (hk5.mono (Nat.succ_le_of_lt hql4))
  simpa only [expD, expCells] using h9
 have hS6 : Sr (w.alloc ritm0) (((((((((w5.setCell ⟨w1.heap.size, 1, none⟩ (.int .i64 f1)).setCell ⟨w1.heap.size, 2, none⟩ (.int .i64 s1)).setCell ⟨w1.heap.size, 3, none⟩ (.string ⟨nm1.toArray⟩)).setCell ⟨w1.heap.size, 4, none⟩ (.int .i64 tk1)).setCell ⟨w1.heap.size, 5, none⟩ (.int .i64 tl1)).setCell ⟨w1.heap.size, 6, none⟩ (.int .i64 n1)).setCell ⟨w1.heap.size, 7, none⟩ (.int .i64 m1)).setCell ⟨w1.heap.size, 8, none⟩ (.slice ka kn kc)).setCell ⟨w1.heap.size, 9, none⟩ (.int .i64 a1)) b g cap T w1.heap.size t1 40 [.l 9 1 ([nx].map nameD), .c (.int .i64 f1), .c (.int .i64 s1), .c (.string ⟨nm1.toArray⟩), .c (.int .i64 tk1), .c (.int .i64 tl1), .c (.int .i64 n1), .c (.int .i64 m1), .l 37 9 (expsD ks1), .c (.int .i64 a1), .l 119 6 [], .c (.int .i64 (ya : Int))] [.slice (some ⟨w3.heap.size, 0, none⟩) 1 1, .int .i64 f1, .int .i64 s1, .string ⟨nm1.toArray⟩, .int .i64 tk1, .int .i64 tl1, .int .i64 n1, .int .i64 m1, .slice ka kn kc, .int .i64 a1, .slice none 0 0, .int .i64 (ya : Int)] := hS5.exp1 he5
 have hK := rtake_any b g cap T t1 ⟨#[59]⟩ _ hS6.pa
 rw [show ((⟨#[59]⟩ : ByteArray)).data.toList = [59] from rfl] at hK
 have HS6 := ld hS6
 clear hS6 hS5 he5 hc hk5 hP5 hg5
 refine ld ?_
 go_wp2_with (go_at_call 64; refine hK.mono ?_; rintro e w6 ⟨rfl, hPx, hgx⟩; refine Hid.out ?_)
 have hSE := HS6.out.on hgx hPx
 have hgA := hSE.gr
 (try clear z0 z1 z2 z3 z4 z5 z6 z7 z8 z9 z10 z11 zf)
 obtain ⟨z0, z1, z2, z3, z4, z5, z6, z7, z8, z9, z10, z11, zf⟩ := rcells_12 (show w6.heap[w1.heap.size]? = some (.cells #[.slice (some ⟨w3.heap.size, 0, none⟩) 1 1, .int .i64 f1, .int .i64 s1, .string ⟨nm1.toArray⟩, .int .i64 tk1, .int .i64 tl1, .int .i64 n1, .int .i64 m1, .slice ka kn kc, .int .i64 a1, .slice none 0 0, .int .i64 (ya : Int)] 40 (0, 0)) from hSE.row)
 have HSE := ld hSE
 clear hSE hK hPx hgx
 refine ld ?_
 go_wp2_with (with_reducible refine hold_st 2 ?_)
 refine ld ?_
 refine sg ((hgA.block w.heap.size (by simp) (by simp; omega)).trans (heap_alloc_new w ritm0)) ?_
 intro w7 hh7 hg7
 go_wp2
 (try simp only [Exit.inBlock, Exit.then])
 refine br hh7 Tryz.underlying40 ?_
 have hG : w.grownBy w7 (some b) := ((grown_some (ga w ritm0 none) b).trans hgA).andThen hg7 (fun j e => .inl (by cases e; exact Nat.le_refl _))
 obtain ⟨hkk, hss⟩ := HSE.out.ends hg7 (by simp) (by omega)
 rw [HT2.out]
 refine ⟨_, rfl, ?_, HH.out.to hG hss HSE.out.pa.lt, hG⟩
 simpa only [itemD, expD, statesD, List.cons_append, List.nil_append] using hkk
end
open Go.RowKit Go.Maps Go.WideMaps
structure Nb (w0 w : World) (b g cap : Nat) (T : List Lex.Tk) (q : Nat) (s : Gram.Rf.St) (acc : List Gram.B) (v : Value) (ya : Int) : Prop where
 p : Rp w b g cap T s
 g' : w0.grownBy w (some b)
 row : w.heap[q]? = some (.cells #[v, .int .i64 0, .int .i64 0, .string ⟨#[]⟩, .int .i64 0, .int .i64 0, .int .i64 0, .int .i64 0, .slice none 0 0, .int .i64 0, .slice none 0 0, .int .i64 ya] 40 (0, 0))
 gro : GrowD w (q + 1) 9 1 (acc.map nameD) v
theorem Nb.ql {w0 w : World} {b g cap : Nat} {T : List Lex.Tk} {q : Nat} {s : Gram.Rf.St} {acc : List Gram.B} {v : Value} {ya : Int} (h : Nb w0 w b g cap T q s acc v ya) : q < w.heap.size := (Array.getElem?_eq_some_iff.1 h.row).1
theorem Nb.on {w0 w w' : World} {b g cap : Nat} {T : List Lex.Tk} {q : Nat} {s s' : Gram.Rf.St} {acc : List Gram.B} {v : Value} {ya : Int} (h : Nb w0 w b g cap T q s acc v ya) (hq : b < q) (hg : w.grownBy w' (some b)) (hp : Rp w' b g cap T s') : Nb w0 w' b g cap T q s' acc v ya :=
 ⟨hp, h.g'.trans hg, (hg.block q h.ql (by simp; omega)).trans h.row, h.gro.keptB hg (by omega)⟩
section
variable (b g cap : Nat) (T : List Lex.Tk)
theorem ritem_brack (f : Nat) (s : Gram.Rf.St) (w : World) (h : Rp w b g cap T s) (qa : Gram.Rf.is T [97, 117, 116, 111, 109, 97, 116, 111, 110] s = false) (qb : Gram.Rf.is T [40] s = true) (hf : (Gram.Rf.item T (f + 1) s).isSome = true) :
  Calls Tryz.prog 79 #[.pointer (some ⟨b, 0, none⟩)] w fun e w' => r1Post itemD w b g cap T (Gram.Rf.item T (f + 1) s) e w' := by
 obtain ⟨it, hit, hz, hsz, hby⟩ := infoP info_string
 have hbw := h.bl
 have hP0 := h.alloc ritm0
 have he0 := (is_kind qb).1
 obtain ⟨R, hR⟩ : ∃ R, R = Gram.Rf.item T (f + 1) s := ⟨_, rfl⟩
 rw [← hR] at hf ⊢
 rw [Gram.Rf.item, qa, if_neg (by decide)] at hR
 unfold Gram.Rf.equation at hR
 rw [qb, if_pos rfl] at hR
 have hT := rtok_any b g cap T s _ hP0
 generalize Gram.tk T s.i = y at hT hR
 obtain ⟨yk, yt, yn, yu, ya⟩ := y
 have hfd := fldAt ⟨yk, yt, yn, yu, ya⟩
 simp only [tokV] at hT hfd
 have HR := ld hR
 clear hR
 have hIs := fun wx (hx : Rp wx b g cap T s) => ris_any b g cap T s ⟨#[97, 117, 116, 111, 109, 97, 116, 111, 110]⟩ wx hx
 rw [show ((⟨#[97, 117, 116, 111, 109, 97, 116, 111, 110]⟩ : ByteArray)).data.toList = [97, 117, 116, 111, 109, 97, 116, 111, 110] from rfl, qa] at hIs
 have hMb := fun wx (hx : Rp wx b g cap T s) => rmaybe_any b g cap T s ⟨#[40]⟩ wx hx
 unfold Gram.Rf.maybe at hMb
 rw [show ((⟨#[40]⟩ : ByteArray)).data.toList = [40] from rfl, qb, if_pos rfl] at hMb
 have HH := ld h
 have HP0 := ld hP0
 clear h hP0
 go_enter Tryz.func79, Tryz.ntmps79
 go_wp2_with (go_at_call 45; refine hT.mono ?_; rintro e w1 ⟨rfl, hg1⟩; refine Hid.out ?_)
 have hs1 := hg1.size
 have hNb : Nb (w.alloc ritm0) (w1.alloc (.cells #[.slice none 0 0, .int .i64 0, .int .i64 0, .string ⟨#[]⟩, .int .i64 0, .int .i64 0, .int .i64 0, .int .i64 0, .slice none 0 0, .int .i64 0, .slice none 0 0, .int .i64 (ya : Int)] 40)) b g cap T w1.heap.size s [] (.slice none 0 0) (ya : Int) :=
  ⟨(HP0.out.kept hg1).alloc _, galloc (grown_some hg1 b) _, heap_alloc_new w1 _, GrowD.nil _ _ _ _⟩
 rw [World.size_alloc] at hs1
 clear hT hg1
 have hPq := hNb.p
 have HNb := ld hNb
 clear hNb
 have hbq : b < w1.heap.size := by omega
 refine ld ?_
 go_wp2_with (first | (go_at_call 46; refine (hIs _ hPq).mono ?_; rintro e wi ⟨rfl, hgi⟩) | (go_at_call 67; refine (hMb _ (hPq.kept hgi)).mono ?_; rintro e wm ⟨rfl, hPm, hgm⟩; refine Hid.out ?_))
 have hN1 := HNb.out.on hbq ((grown_some hgi b).trans hgm) hPm
 have HN1 := ld hN1
 clear hN1 HNb hgi hgm hPm hPq hIs hMb
 refine ld ?_
 go_wp2
 go_loopg [] f (fun (f' : Nat) (wr : World) => ∃ (acc : List Gram.B) (s' : Gram.Rf.St) (pa : Option Addr) (pn pc : Nat), f' ≤ f ∧ s'.e = 0 ∧ acc.length ≤ 16 ∧ Hid (Nb (w.alloc ritm0) wr b g cap T w1.heap.size s' acc (.slice pa pn pc) (ya : Int) ∧ Gram.Rf.lhs T f' acc s' = Gram.Rf.lhs T f [] (Gram.Rf.adv s)))
 case atStart => exact ⟨[], Gram.Rf.adv s, none, 0, 0, Nat.le_refl _, he0, by simp, ld ⟨HN1.out, rfl⟩⟩
 case round =>
  obtain ⟨acc, s', pa, pn, pc, hff, he, ha16, HG⟩ := hrel
  obtain ⟨hNb, hL⟩ := HG.out
  clear HG HN1
  rcases Nat.eq_zero_or_pos gk with hz0 | hz0
  ·rw [hz0] at hL; rw [HR.out, ← hL] at hf; exact absurd hf (by simp [Gram.Rf.lhs, Gram.Rf.bindS])
  obtain ⟨f', hfe⟩ : ∃ f', gk = f' + 1 := ⟨gk - 1, by omega⟩
  subst hfe
  rw [Gram.Rf.lhs, if_pos he] at hL
  have hP := hNb.p
  have p2 := hP.st.c2
  have b0 : (s'.e == 0) = true := by rw [beq_iff_eq]; exact he
  have hn := rtok_any b g cap T s' wr hP
  have hbad : (Gram.tk T s'.i).kind ≠ 1 → (Gram.Rf.name T s').2.e ≠ 0 := fun hk e => hk (Gram.Rf.name_e e).2
  have hNm := fun wx (hx : Rp wx b g cap T s') => rname_any b g cap T s' wx hx
  generalize Gram.tk T s'.i = y at hn hL hbad
  generalize Gram.Rf.name T s' = rr at hNm hL hbad
  obtain ⟨zk, zt, zn, zu, za⟩ := y
  obtain ⟨nx, s2⟩ := rr
  have hfk := fldKind ⟨zk, zt, zn, zu, za⟩
  simp only [tokV] at hn hfk
  simp only at hNm hbad
  have hlf : ∀ (ty : TypeId) (wx : World), (Builtin.len_ #[32] ty #[.slice pa pn pc]).run Tryz.prog wx = .ok (.int .i64 (acc.length : Int)) wx := by
   obtain ⟨xs, ho, _⟩ := hNb.gro
   rw [List.length_map] at ho
   exact fun ty wx => len_string ho ty wx
  have HL := ld hL
  have HNb := ld hNb
  clear hL hNb he
  generalize s'.e = e0 at p2 b0
  by_cases hk : zk = 1
  ·have bk : (zk == 1) = true := by rw [beq_iff_eq]; exact hk
   by_cases hm : 16 ≤ acc.length
   ·have hrm := fun wx (hx : Rp wx b g cap T s') => rfull_yes b g cap T s' (acc.length : Int) 16 (by omega) wx hx
    have HE : Hid (R = some (.mk acc Gram.zeroExp [] (ya : Int), Gram.Rf.fail T 2 s')) := by show _ = _; rw [HR.out, ← HL.out, if_pos ⟨hk, hm⟩]; rfl
    clear HL HR hbad hk hm
    go_wp2_with (go_at_call 45; refine hn.mono ?_; rintro e w2 ⟨rfl, hg2⟩; refine Hid.out ?_)
    have hN2 := HNb.out.on hbq (grown_some hg2 b) (HNb.out.p.kept hg2)
    obtain ⟨z0, z1, z2, z3, z4, z5, z6, z7, z8, z9, z10, z11, zf⟩ := rcells_12 hN2.row
    have HN2 := ld hN2
    clear hN2
    refine ld ?_
    go_wp2_with (go_at_call 48; refine (hrm _ (hP.kept hg2)).mono ?_; rintro e w3 ⟨rfl, hP3, hg3⟩; refine Hid.out ?_)
    have hN3 := HN2.out.on hbq hg3 hP3
    clear z0 z1 z2 z3 z4 z5 z6 z7 z8 z9 z10 z11 zf
    obtain ⟨z0, z1, z2, z3, z4, z5, z6, z7, z8, z9, z10, z11, zf⟩ := rcells_12 hN3.row
    have hS : Sr (w.alloc ritm0) w3 b g cap T w1.heap.size (Gram.Rf.fail T 2 s') 40 [.l 9 1 (acc.map nameD), .c (.int .i64 0), .c (.int .i64 0), .c (.string ⟨#[]⟩), .c (.int .i64 0), .c (.int .i64 0), .c (.int .i64 0), .c (.int .i64 0), .l 37 9 [], .c (.int .i64 0), .l 119 6 [], .c (.int .i64 (ya : Int))] [.slice pa pn pc, .int .i64 0, .int .i64 0, .string ⟨#[]⟩, .int .i64 0, .int .i64 0, .int .i64 0, .int .i64 0, .slice none 0 0, .int .i64 0, .slice none 0 0, .int .i64 (ya : Int)] := Sr.make ⟨s, HP0.out⟩ hP3 hN3.g' (by simp; omega) hN3.row (.cons hN3.gro.rep (.cons (.c _) (.cons (.c _) (.cons (.c _) (.cons (.c _) (.cons (.c _) (.cons (.c _) (.cons (.c _) (.cons (RepC.nil _ _ _ _ _) (.cons (.c _) (.cons (RepC.nil _ _ _ _ _) (.cons (.c _) .nil))))))))))))
    have hgA := hS.gr
    have HSE := ld hS
    clear hS hN3 HN2 hP3 hg3
    refine ld ?_
    go_wp2_with (with_reducible refine hold_st 2 ?_)
    refine ld ?_
    refine sg ((hgA.block w.heap.size (by simp) (by simp; omega)).trans (heap_alloc_new w ritm0)) ?_
    intro w7 hh7 hg7
    go_wp2
    (try simp only [Exit.inBlock, Exit.then])
    refine br hh7 Tryz.underlying40 ?_
    have hG : w.grownBy w7 (some b) := ((grown_some (ga w ritm0 none) b).trans hgA).andThen hg7 (fun j e => .inl (by cases e; exact Nat.le_refl _))
    obtain ⟨hkk, hss⟩ := HSE.out.ends hg7 (by simp) (by omega)
    rw [HE.out]
    refine ⟨_, rfl, ?_, HH.out.to hG hss HSE.out.pa.lt, hG⟩
    simpa only [itemD, Gram.zeroExp, expD, expsD, statesD, List.cons_append, List.nil_append] using hkk
   have hrm := fun wx => rfull_no b (acc.length : Int) 16 (by omega) wx
   have HE : Hid ((if Gram.Rf.is T [44] s2 then Gram.Rf.lhs T f' (acc ++ [nx]) (Gram.Rf.adv s2) else some ((acc ++ [nx], false), s2)) = Gram.Rf.lhs T f [] (Gram.Rf.adv s)) := by have e9 := HL.out; rw [if_neg (fun e => hm e.2)] at e9; exact e9
   clear HL hbad hk
   go_wp2_with (go_at_call 45; refine hn.mono ?_; rintro e w2 ⟨rfl, hg2⟩; refine Hid.out ?_)
   obtain ⟨WB, hWB⟩ : ∃ WB, WB = w2.drew := ⟨_, rfl⟩
   have hN2 := HNb.out.on hbq (grown_some hg2 b) (HNb.out.p.kept hg2)
   obtain ⟨z0, z1, z2, z3, z4, z5, z6, z7, z8, z9, z10, z11, zf⟩ := rcells_12 hN2.row
   have hNW : Nb (w.alloc ritm0) WB b g cap T w1.heap.size s' acc (.slice pa pn pc) (ya : Int) := by rw [hWB]; exact hN2.on hbq (grown_some (gdrew (World.grownBy.refl w2 none)) b) hN2.p.drew
   have hce := hNm WB hNW.p
   have HNW := ld hNW
   have hS0 : WB.cell? ⟨w1.heap.size, 0, none⟩ = some (.slice pa pn pc) := (rcells_12 hNW.row).1
   clear hNW hN2 hNm hn
   refine ld ?_
   go_wp2_with (go_at_call 48; refine (hrm _).mono ?_; rintro e w8 ⟨rfl, hw8⟩; rw [hw8]; clear hw8)
   refine wp_region_L (S := fun w' => w'.cell? ⟨w1.heap.size, 0, none⟩ = some (.slice pa pn pc)) (Z := [7]) (by kernel_rfl) ?_
   rw [← hWB]
   clear hWB z0 z1 z2 z3 z4 z5 z6 z7 z8 z9 z10 z11 zf
   refine wpL_take (i := 0) (v := .pointer (some ⟨w1.heap.size, 0, none⟩)) rfl (by kernel_rfl) (by kernel_rfl) (by kernel_rfl) (fun _ _ _ h => h) (by kernel_rfl) (.inl ⟨rfl, fun w' hw' => ?_⟩) hS0 ?_
   ·go_simp
   refine wpL_take (i := 1) (v := .slice pa pn pc) rfl (by kernel_rfl) (by kernel_rfl) (by kernel_rfl) (fun _ _ _ h => h) (by kernel_rfl) (.inl ⟨rfl, fun w' hw' => ?_⟩) hS0 ?_
   ·go_simp
   refine wpL_take (i := 2) (v := .pointer (some ⟨b, 0, none⟩)) rfl (by kernel_rfl) (by kernel_rfl) (by kernel_rfl) (fun _ _ _ h => h) (by kernel_rfl) (.inl ⟨rfl, fun w' hw' => ?_⟩) hS0 ?_
   ·go_simp
   refine wpL_one (i := 3) (by kernel_rfl) ?_
   refine wpOp_step rfl (fun K' hK => ?_)
   split
   case isFalse hno => exact absurd rfl hno
   unfold Oper.wp
   go_simp
   refine hce.mono ?_
   rintro e w8 ⟨rfl, hp8, hg8⟩
   have H8 := HNW.out.on hbq hg8 hp8
   refine hK _ _ ⟨fun _ => (rcells_12 H8.row).1, ?_⟩
   clear hK K'
   refine wpL_one (i := 4) (by kernel_rfl) ?_
   refine wpOp_step rfl (fun K' hK => ?_)
   split
   case isFalse hno => exact absurd rfl hno
   unfold Oper.wp
   go_simp
   have H9 := H8.on hbq (ga w8 (.cells #[.string ⟨nx.toArray⟩] 9) (some b)) (H8.p.alloc _)
   refine hK _ _ ⟨fun _ => (rcells_12 H9.row).1, ?_⟩
   clear hK K'
   have hql8 := H8.ql
   obtain ⟨xs2, ho2, hr2⟩ := H8.gro
   rw [List.length_map] at ho2
   refine wpL_one (i := 5) (by kernel_rfl) ?_
   refine wpOp_step rfl (fun K' hK => ?_)
   split
   case isFalse hno => exact absurd rfl hno
   refine wp_append_at _ _ 32 rfl (w1.heap.size + 1) 9 it _ 1 16 Tryz.underlying32 hit hz hsz hby rfl (by decide) (.slice pa pn pc) acc.length xs2 rfl (ho2.alloc _) ⟨w8.heap.size, 0, none⟩ 1 1 [.string ⟨nx.toArray⟩] rfl rfl (cell_row_new w8 [.string ⟨nx.toArray⟩] 9) (by simp [Value.oneCell']) ?_ ?_ ?_ ?_
   ·unfold maxLen; omega
   ·omega
   ·simp only [World.size_alloc]; omega
   intro v' w9 hown' hgrow9 _ hvb
   have hG9 : GrowD w9 (w1.heap.size + 1) 9 1 (acc.map nameD ++ [nameD nx]) v' := growD_snoc hgrow9 (by rw [List.length_map]; exact hown') (RepRow.keptX (ga w8 _ none) (fun k e => by cases e) hr2) (.cons (.c _) .nil) (by first | exact hvb | (rw [World.size_alloc] at hvb; rw [World.size_alloc]; exact hvb))
   have hG9b : (w.alloc ritm0).grownBy w9 (some b) := H9.g'.andThen hgrow9 (fun j e => .inl (by have := (ho2.lt j e).1; simp; omega))
   have hq9 : ∀ k, k ≤ w1.heap.size → some k ≠ (Value.slice pa pn pc).ownBlock := fun k hk e => by have := (ho2.lt k e.symm).1; omega
   have hP9 : Rp w9 b g cap T s2 := HP0.out.to hG9b (H9.p.st.kept hgrow9 (hq9 b (by omega))) H9.p.lt
   have hrow9 := (hgrow9.block w1.heap.size H9.ql (hq9 _ (Nat.le_refl _))).trans H9.row
   obtain ⟨va, vn, vc, rfl⟩ := hG9.form
   have hfr9 := (rcells_12 hrow9).2.2.2.2.2.2.2.2.2.2.2.2
   have hc9 := (rcells_12 hrow9).1
   refine hK _ _ ⟨fun _ => hc9, ?_⟩
   clear hK K'
   refine wpL_one (i := 6) (by kernel_rfl) ?_
   refine wpOp_step rfl (fun K' hK => ?_)
   split
   case isFalse hno => exact absurd rfl hno
   unfold Oper.wp
   go_simp
   refine hK _ _ ⟨fun _ => hc9, ?_⟩
   clear hK K'
   have hNn : Nb (w.alloc ritm0) (w9.setCell ⟨w1.heap.size, 0, none⟩ (.slice va vn vc)) b g cap T w1.heap.size s2 (acc ++ [nx]) (.slice va vn vc) (ya : Int) := by
    have hg' : (w.alloc ritm0).grownBy (w9.setCell ⟨w1.heap.size, 0, none⟩ (.slice va vn vc)) (some b) := gset hG9b (.inl (by simp; omega)) _
    refine ⟨HP0.out.to hg' (hP9.st.kept (grown_set w9 ⟨w1.heap.size, 0, none⟩ _) (by simp; omega)) hP9.lt, hg', ?_, ?_⟩
    ·rw [heap_setCell_same w9 w1.heap.size 0 _ _ _ hrow9]; simp
    ·rw [List.map_append]; exact GrowD.kept (grown_set w9 ⟨w1.heap.size, 0, none⟩ _) (fun k e => by cases e; exact Nat.lt_succ_self _) hG9
   refine wpL_one (i := 7) (by kernel_rfl) ?_
   refine wpOp_step rfl (fun K' hK => ?_)
   split
   case isFalse hno => exact absurd rfl hno
   unfold Oper.wp
   go_simp
   refine hK _ _ ⟨fun hno => absurd (by simp) hno, ?_⟩
   clear hK K'
   refine wpL_done (by kernel_rfl) ?_ _
   have hMc := rmaybe_any b g cap T s2 ⟨#[44]⟩ _ hNn.p
   unfold Gram.Rf.maybe at hMc
   rw [show ((⟨#[44]⟩ : ByteArray)).data.toList = [44] from rfl] at hMc
   have HNn := ld hNn
   clear hNn hc9 hfr9 hrow9 hP9 hG9b hG9 hgrow9 hown' hvb H9 H8 hr2 ho2 hg8 hp8 HNW hS0 hce
   cases hsx : Gram.Rf.is T [44] s2 with
   | true =>
    rw [hsx, if_pos rfl] at hMc
    have he2 := (is_kind hsx).1
    refine Hid.out ?_
    refine ld ?_
    go_wp2_with (go_at_call 67; refine hMc.mono ?_; rintro e w5 ⟨rfl, hP5, hg5⟩)
    go_roundg f'
    case measure => exact Nat.lt_succ_self _
    case rel => exact ⟨acc ++ [nx], Gram.Rf.adv s2, va, vn, vc, by omega, he2, by simp; omega, ld ⟨HNn.out.on hbq hg5 hP5, by rw [← HE.out, if_pos hsx]⟩⟩
   | false =>
    rw [hsx, if_neg (by decide)] at hMc
    have HT1 : Hid (R = Gram.Rf.bindS (Gram.Rf.exp T f (Gram.Rf.take T [61] (Gram.Rf.take T [41] s2))) fun e s => some (.mk (acc ++ [nx]) e [] (ya : Int), Gram.Rf.take T [59] s)) := by show _ = _; rw [HR.out, ← HE.out, hsx, if_neg (by decide)]; rfl
    clear HR HE
    refine Hid.out ?_
    refine ld ?_
    go_wp2_with (go_at_call 67; refine hMc.mono ?_; rintro e wk ⟨rfl, hPk, hgk⟩; refine Hid.out ?_)
    have hNk := HNn.out.on hbq hgk hPk
    have hS : Sr (w.alloc ritm0) wk b g cap T w1.heap.size s2 40 [.l 9 1 ((acc ++ [nx]).map nameD), .c (.int .i64 0), .c (.int .i64 0), .c (.string ⟨#[]⟩), .c (.int .i64 0), .c (.int .i64 0), .c (.int .i64 0), .c (.int .i64 0), .l 37 9 [], .c (.int .i64 0), .l 119 6 [], .c (.int .i64 (ya : Int))] [.slice va vn vc, .int .i64 0, .int .i64 0, .string ⟨#[]⟩, .int .i64 0, .int .i64 0, .int .i64 0, .int .i64 0, .slice none 0 0, .int .i64 0, .slice none 0 0, .int .i64 (ya : Int)] := Sr.make ⟨s, HP0.out⟩ hPk hNk.g' (by simp; omega) hNk.row (.cons hNk.gro.rep (.cons (.c _) (.cons (.c _) (.cons (.c _) (.cons (.c _) (.cons (.c _) (.cons (.c _) (.cons (.c _) (.cons (RepC.nil _ _ _ _ _) (.cons (.c _) (.cons (RepC.nil _ _ _ _ _) (.cons (.c _) .nil))))))))))))
    clear hNk HNn hPk hgk hMc
    have hKa := rtake_any b g cap T s2 ⟨#[41]⟩ _ hS.pa
    rw [show ((⟨#[41]⟩ : ByteArray)).data.toList = [41] from rfl] at hKa
    have hK := fun wx (hx : Rp wx b g cap T (Gram.Rf.take T [41] s2)) => rtake_any b g cap T (Gram.Rf.take T [41] s2) ⟨#[61]⟩ wx hx
    rw [show ((⟨#[61]⟩ : ByteArray)).data.toList = [61] from rfl] at hK
    have HS := ld hS
    clear hS
    refine ld ?_
    go_wp2_with (go_at_call 64; first | (refine (hK _ hPy).mono ?_; rintro e w4 ⟨rfl, hPx, hgx⟩; refine Hid.out ?_) | (refine hKa.mono ?_; rintro e w3 ⟨rfl, hPy, hgy⟩))
    have hS4 := (HS.out.on hgy hPy).on hgx hPx
    clear HS hK hKa hPx hgx hPy hgy
    cases hex : Gram.Rf.exp T f (Gram.Rf.take T [61] (Gram.Rf.take T [41] s2)) with
    | none => rw [HT1.out, hex] at hf; cases hf
    | some r =>
    obtain ⟨x, t1⟩ := r
    cases x with
    | mk f1 s1 nm1 tk1 tl1 n1 m1 ks1 a1 =>
    have hc := rexp_any b g cap T f _ _ hS4.pa (by rw [hex]; rfl)
    simp only [hex, rePost, expV] at hc
    have HT2 : Hid (R = some (.mk (acc ++ [nx]) (.mk f1 s1 nm1 tk1 tl1 n1 m1 ks1 a1) [] (ya : Int), Gram.Rf.take T [59] t1)) := by show _ = _; rw [HT1.out, hex]; rfl
    have HS4 := ld hS4
    clear hS4 HT1 hex
    refine ld ?_
    go_wp2_with (go_at_call 88; refine hc.mono ?_; rintro e w5 ⟨k5, rfl, hk5, hP5, hg5⟩; obtain ⟨ka, kn, kc, rfl⟩ := hk5.form; refine Hid.out ?_)
    have hS5 := HS4.out.on hg5 hP5
    have hql4 := HS4.out.ql
    obtain ⟨z0, z1, z2, z3, z4, z5, z6, z7, z8, z9, z10, z11, zf⟩ := rcells_12 (show w5.heap[w1.heap.size]? = some (.cells #[.slice va vn vc, .int .i64 0, .int .i64 0, .string ⟨#[]⟩, .int .i64 0, .int .i64 0, .int .i64 0, .int .i64 0, .slice none 0 0, .int .i64 0, .slice none 0 0, .int .i64 (ya : Int)] 40 (0, 0)) from hS5.row)
    have he5 : RepRow w5 (w1.heap.size + 1) [] [.c (.int .i64 f1), .c (.int .i64 s1), .c (.string ⟨nm1.toArray⟩), .c (.int .i64 tk1), .c (.int .i64 tl1), .c (.int .i64 n1), .c (.int .i64 m1), .l 37 9 (expsD ks1), .c (.int .i64 a1)] [.int .i64 f1, .int .i64 s1, .string ⟨nm1.toArray⟩, .int .i64 tk1, .int .i64 tl1, .int .i64 n1, .int .i64 m1, .slice ka kn kc, .int .i64 a1] := by
     have h9 := exp_row (x := (.mk f1 s1 nm1 tk1 tl1 n1 m1 ks1 a1)) (E := []) (hk5.mono (Nat.succ_le_of_lt hql4))
     simpa only [expD, expCells] using h9
    have hS6 : Sr (w.alloc ritm0) (((((((((w5.setCell ⟨w1.heap.size, 1, none⟩ (.int .i64 f1)).setCell ⟨w1.heap.size, 2, none⟩ (.int .i64 s1)).setCell ⟨w1.heap.size, 3, none⟩ (.string ⟨nm1.toArray⟩)).setCell ⟨w1.heap.size, 4, none⟩ (.int .i64 tk1)).setCell ⟨w1.heap.size, 5, none⟩ (.int .i64 tl1)).setCell ⟨w1.heap.size, 6, none⟩ (.int .i64 n1)).setCell ⟨w1.heap.size, 7, none⟩ (.int .i64 m1)).setCell ⟨w1.heap.size, 8, none⟩ (.slice ka kn kc)).setCell ⟨w1.heap.size, 9, none⟩ (.int .i64 a1)) b g cap T w1.heap.size t1 40 [.l 9 1 ((acc ++ [nx]).map nameD), .c (.int .i64 f1), .c (.int .i64 s1), .c (.string ⟨nm1.toArray⟩), .c (.int .i64 tk1), .c (.int .i64 tl1), .c (.int .i64 n1), .c (.int .i64 m1), .l 37 9 (expsD ks1), .c (.int .i64 a1), .l 119 6 [], .c (.int .i64 (ya : Int))] [.slice va vn vc, .int .i64 f1, .int .i64 s1, .string ⟨nm1.toArray⟩, .int .i64 tk1, .int .i64 tl1, .int .i64 n1, .int .i64 m1, .slice ka kn kc, .int .i64 a1, .slice none 0 0, .int .i64 (ya : Int)] := hS5.exp1 he5
    have hK := rtake_any b g cap T t1 ⟨#[59]⟩ _ hS6.pa
    rw [show ((⟨#[59]⟩ : ByteArray)).data.toList = [59] from rfl] at hK
    have HS6 := ld hS6
    clear hS6 hS5 he5 hc hk5 hP5 hg5
    refine ld ?_
    go_wp2_with (go_at_call 64; refine hK.mono ?_; rintro e w6 ⟨rfl, hPx, hgx⟩; refine Hid.out ?_)
    have hSE := HS6.out.on hgx hPx
    have hgA := hSE.gr
    (try clear z0 z1 z2 z3 z4 z5 z6 z7 z8 z9 z10 z11 zf)
    obtain ⟨z0, z1, z2, z3, z4, z5, z6, z7, z8, z9, z10, z11, zf⟩ := rcells_12 (show w6.heap[w1.heap.size]? = some (.cells #[.slice va vn vc, .int .i64 f1, .int .i64 s1, .string ⟨nm1.toArray⟩, .int .i64 tk1, .int .i64 tl1, .int .i64 n1, .int .i64 m1, .slice ka kn kc, .int .i64 a1, .slice none 0 0, .int .i64 (ya : Int)] 40 (0, 0)) from hSE.row)
    have HSE := ld hSE
    clear hSE hK hPx hgx
    refine ld ?_
    go_wp2_with (with_reducible refine hold_st 2 ?_)
    refine ld ?_
    refine sg ((hgA.block w.heap.size (by simp) (by simp; omega)).trans (heap_alloc_new w ritm0)) ?_
    intro w7 hh7 hg7
    go_wp2
    (try simp only [Exit.inBlock, Exit.then])
    refine br hh7 Tryz.underlying40 ?_
    have hG : w.grownBy w7 (some b) := ((grown_some (ga w ritm0 none) b).trans hgA).andThen hg7 (fun j e => .inl (by cases e; exact Nat.le_refl _))
    obtain ⟨hkk, hss⟩ := HSE.out.ends hg7 (by simp) (by omega)
    rw [HT2.out]
    refine ⟨_, rfl, ?_, HH.out.to hG hss HSE.out.pa.lt, hG⟩
    simpa only [itemD, expD, statesD, List.cons_append, List.nil_append] using hkk
  ·have bk : (zk == 1) = false := by rw [beq_eq_false_iff_ne]; exact hk
   have HE : Hid ((if Gram.Rf.is T [44] s2 then Gram.Rf.lhs T f' (acc ++ [nx]) (Gram.Rf.adv s2) else some ((acc ++ [nx], false), s2)) = Gram.Rf.lhs T f [] (Gram.Rf.adv s)) := by have e9 := HL.out; rw [if_neg (fun e => hk e.1)] at e9; exact e9
   have hnc : Gram.Rf.is T [44] s2 = false := by
    have := hbad hk
    unfold Gram.Rf.is
    have e : (s2.e == 0) = false := by rw [beq_eq_false_iff_ne]; exact this
    rw [e]; rfl
   clear HL hbad hk
   go_wp2_with (go_at_call 45; refine hn.mono ?_; rintro e w2 ⟨rfl, hg2⟩; refine Hid.out ?_)
   obtain ⟨WB, hWB⟩ : ∃ WB, WB = w2.drew := ⟨_, rfl⟩
   have hN2 := HNb.out.on hbq (grown_some hg2 b) (HNb.out.p.kept hg2)
   obtain ⟨z0, z1, z2, z3, z4, z5, z6, z7, z8, z9, z10, z11, zf⟩ := rcells_12 hN2.row
   have hNW : Nb (w.alloc ritm0) WB b g cap T w1.heap.size s' acc (.slice pa pn pc) (ya : Int) := by rw [hWB]; exact hN2.on hbq (grown_some (gdrew (World.grownBy.refl w2 none)) b) hN2.p.drew
   have hce := hNm WB hNW.p
   have HNW := ld hNW
   have hS0 : WB.cell? ⟨w1.heap.size, 0, none⟩ = some (.slice pa pn pc) := (rcells_12 hNW.row).1
   clear hNW hN2 hNm hn
   refine ld ?_
   go_wp2
   refine wp_region_L (S := fun w' => w'.cell? ⟨w1.heap.size, 0, none⟩ = some (.slice pa pn pc)) (Z := [7]) (by kernel_rfl) ?_
   rw [← hWB]
   clear hWB z0 z1 z2 z3 z4 z5 z6 z7 z8 z9 z10 z11 zf
   refine wpL_take (i := 0) (v := .pointer (some ⟨w1.heap.size, 0, none⟩)) rfl (by kernel_rfl) (by kernel_rfl) (by kernel_rfl) (fun _ _ _ h => h) (by kernel_rfl) (.inl ⟨rfl, fun w' hw' => ?_⟩) hS0 ?_
   ·go_simp
   refine wpL_take (i := 1) (v := .slice pa pn pc) rfl (by kernel_rfl) (by kernel_rfl) (by kernel_rfl) (fun _ _ _ h => h) (by kernel_rfl) (.inl ⟨rfl, fun w' hw' => ?_⟩) hS0 ?_
   ·go_simp
   refine wpL_take (i := 2) (v := .pointer (some ⟨b, 0, none⟩)) rfl (by kernel_rfl) (by kernel_rfl) (by kernel_rfl) (fun _ _ _ h => h) (by kernel_rfl) (.inl ⟨rfl, fun w' hw' => ?_⟩) hS0 ?_
   ·go_simp
   refine wpL_one (i := 3) (by kernel_rfl) ?_
   refine wpOp_step rfl (fun K' hK => ?_)
   split
   case isFalse hno => exact absurd rfl hno
   unfold Oper.wp
   go_simp
   refine hce.mono ?_
   rintro e w8 ⟨rfl, hp8, hg8⟩
   have H8 := HNW.out.on hbq hg8 hp8
   refine hK _ _ ⟨fun _ => (rcells_12 H8.row).1, ?_⟩
   clear hK K'
   refine wpL_one (i := 4) (by kernel_rfl) ?_
   refine wpOp_step rfl (fun K' hK => ?_)
   split
   case isFalse hno => exact absurd rfl hno
   unfold Oper.wp
   go_simp
   have H9 := H8.on hbq (ga w8 (.cells #[.string ⟨nx.toArray⟩] 9) (some b)) (H8.p.alloc _)
   refine hK _ _ ⟨fun _ => (rcells_12 H9.row).1, ?_⟩
   clear hK K'
   have hql8 := H8.ql
   obtain ⟨xs2, ho2, hr2⟩ := H8.gro
   rw [List.length_map] at ho2
   refine wpL_one (i := 5) (by kernel_rfl) ?_
   refine wpOp_step rfl (fun K' hK => ?_)
   split
   case isFalse hno => exact absurd rfl hno
   refine wp_append_at _ _ 32 rfl (w1.heap.size + 1) 9 it _ 1 16 Tryz.underlying32 hit hz hsz hby rfl (by decide) (.slice pa pn pc) acc.length xs2 rfl (ho2.alloc _) ⟨w8.heap.size, 0, none⟩ 1 1 [.string ⟨nx.toArray⟩] rfl rfl (cell_row_new w8 [.string ⟨nx.toArray⟩] 9) (by simp [Value.oneCell']) ?_ ?_ ?_ ?_
   ·unfold maxLen; omega
   ·omega
   ·simp only [World.size_alloc]; omega
   intro v' w9 hown' hgrow9 _ hvb
   have hG9 : GrowD w9 (w1.heap.size + 1) 9 1 (acc.map nameD ++ [nameD nx]) v' := growD_snoc hgrow9 (by rw [List.length_map]; exact hown') (RepRow.keptX (ga w8 _ none) (fun k e => by cases e) hr2) (.cons (.c _) .nil) (by first | exact hvb | (rw [World.size_alloc] at hvb; rw [World.size_alloc]; exact hvb))
   have hG9b : (w.alloc ritm0).grownBy w9 (some b) := H9.g'.andThen hgrow9 (fun j e => .inl (by have := (ho2.lt j e).1; simp; omega))
   have hq9 : ∀ k, k ≤ w1.heap.size → some k ≠ (Value.slice pa pn pc).ownBlock := fun k hk e => by have := (ho2.lt k e.symm).1; omega
   have hP9 : Rp w9 b g cap T s2 := HP0.out.to hG9b (H9.p.st.kept hgrow9 (hq9 b (by omega))) H9.p.lt
   have hrow9 := (hgrow9.block w1.heap.size H9.ql (hq9 _ (Nat.le_refl _))).trans H9.row
   obtain ⟨va, vn, vc, rfl⟩ := hG9.form
   have hfr9 := (rcells_12 hrow9).2.2.2.2.2.2.2.2.2.2.2.2
   have hc9 := (rcells_12 hrow9).1
   refine hK _ _ ⟨fun _ => hc9, ?_⟩
   clear hK K'
   refine wpL_one (i := 6) (by kernel_rfl) ?_
   refine wpOp_step rfl (fun K' hK => ?_)
   split
   case isFalse hno => exact absurd rfl hno
   unfold Oper.wp
   go_simp
   refine hK _ _ ⟨fun _ => hc9, ?_⟩
   clear hK K'
   have hNn : Nb (w.alloc ritm0) (w9.setCell ⟨w1.heap.size, 0, none⟩ (.slice va vn vc)) b g cap T w1.heap.size s2 (acc ++ [nx]) (.slice va vn vc) (ya : Int) := by
    have hg' : (w.alloc ritm0).grownBy (w9.setCell ⟨w1.heap.size, 0, none⟩ (.slice va vn vc)) (some b) := gset hG9b (.inl (by simp; omega)) _
    refine ⟨HP0.out.to hg' (hP9.st.kept (grown_set w9 ⟨w1.heap.size, 0, none⟩ _) (by simp; omega)) hP9.lt, hg', ?_, ?_⟩
    ·rw [heap_setCell_same w9 w1.heap.size 0 _ _ _ hrow9]; simp
    ·rw [List.map_append]; exact GrowD.kept (grown_set w9 ⟨w1.heap.size, 0, none⟩ _) (fun k e => by cases e; exact Nat.lt_succ_self _) hG9
   refine wpL_one (i := 7) (by kernel_rfl) ?_
   refine wpOp_step rfl (fun K' hK => ?_)
   split
   case isFalse hno => exact absurd rfl hno
   unfold Oper.wp
   go_simp
   refine hK _ _ ⟨fun hno => absurd (by simp) hno, ?_⟩
   clear hK K'
   refine wpL_done (by kernel_rfl) ?_ _
   have hMc := rmaybe_any b g cap T s2 ⟨#[44]⟩ _ hNn.p
   unfold Gram.Rf.maybe at hMc
   rw [show ((⟨#[44]⟩ : ByteArray)).data.toList = [44] from rfl] at hMc
   have HNn := ld hNn
   clear hNn hc9 hfr9 hrow9 hP9 hG9b hG9 hgrow9 hown' hvb H9 H8 hr2 ho2 hg8 hp8 HNW hS0 hce
   have hsx := hnc
   rw [hsx, if_neg (by decide)] at hMc
   have HT1 : Hid (R = Gram.Rf.bindS (Gram.Rf.exp T f (Gram.Rf.take T [61] (Gram.Rf.take T [41] s2))) fun e s => some (.mk (acc ++ [nx]) e [] (ya : Int), Gram.Rf.take T [59] s)) := by show _ = _; rw [HR.out, ← HE.out, hsx, if_neg (by decide)]; rfl
   clear HR HE
   refine Hid.out ?_
   refine ld ?_
   go_wp2_with (go_at_call 67; refine hMc.mono ?_; rintro e wk ⟨rfl, hPk, hgk⟩; refine Hid.out ?_)
   have hNk := HNn.out.on hbq hgk hPk
   have hS : Sr (w.alloc ritm0) wk b g cap T w1.heap.size s2 40 [.l 9 1 ((acc ++ [nx]).map nameD), .c (.int .i64 0), .c (.int .i64 0), .c (.string ⟨#[]⟩), .c (.int .i64 0), .c (.int .i64 0), .c (.int .i64 0), .c (.int .i64 0), .l 37 9 [], .c (.int .i64 0), .l 119 6 [], .c (.int .i64 (ya : Int))] [.slice va vn vc, .int .i64 0, .int .i64 0, .string ⟨#[]⟩, .int .i64 0, .int .i64 0, .int .i64 0, .int .i64 0, .slice none 0 0, .int .i64 0, .slice none 0 0, .int .i64 (ya : Int)] := Sr.make ⟨s, HP0.out⟩ hPk hNk.g' (by simp; omega) hNk.row (.cons hNk.gro.rep (.cons (.c _) (.cons (.c _) (.cons (.c _) (.cons (.c _) (.cons (.c _) (.cons (.c _) (.cons (.c _) (.cons (RepC.nil _ _ _ _ _) (.cons (.c _) (.cons (RepC.nil _ _ _ _ _) (.cons (.c _) .nil))))))))))))
   clear hNk HNn hPk hgk hMc
   have hKa := rtake_any b g cap T s2 ⟨#[41]⟩ _ hS.pa
   rw [show ((⟨#[41]⟩ : ByteArray)).data.toList = [41] from rfl] at hKa
   have hK := fun wx (hx : Rp wx b g cap T (Gram.Rf.take T [41] s2)) => rtake_any b g cap T (Gram.Rf.take T [41] s2) ⟨#[61]⟩ wx hx
   rw [show ((⟨#[61]⟩ : ByteArray)).data.toList = [61] from rfl] at hK
   have HS := ld hS
   clear hS
   refine ld ?_
   go_wp2_with (go_at_call 64; first | (refine (hK _ hPy).mono ?_; rintro e w4 ⟨rfl, hPx, hgx⟩; refine Hid.out ?_) | (refine hKa.mono ?_; rintro e w3 ⟨rfl, hPy, hgy⟩))
   have hS4 := (HS.out.on hgy hPy).on hgx hPx
   clear HS hK hKa hPx hgx hPy hgy
   cases hex : Gram.Rf.exp T f (Gram.Rf.take T [61] (Gram.Rf.take T [41] s2)) with
   | none => rw [HT1.out, hex] at hf; cases hf
   | some r =>
   obtain ⟨x, t1⟩ := r
   cases x with
   | mk f1 s1 nm1 tk1 tl1 n1 m1 ks1 a1 =>
   have hc := rexp_any b g cap T f _ _ hS4.pa (by rw [hex]; rfl)
   simp only [hex, rePost, expV] at hc
   have HT2 : Hid (R = some (.mk (acc ++ [nx]) (.mk f1 s1 nm1 tk1 tl1 n1 m1 ks1 a1) [] (ya : Int), Gram.Rf.take T [59] t1)) := by show _ = _; rw [HT1.out, hex]; rfl
   have HS4 := ld hS4
   clear hS4 HT1 hex
   refine ld ?_
   go_wp2_with (go_at_call 88; refine hc.mono ?_; rintro e w5 ⟨k5, rfl, hk5, hP5, hg5⟩; obtain ⟨ka, kn, kc, rfl⟩ := hk5.form; refine Hid.out ?_)
   have hS5 := HS4.out.on hg5 hP5
   have hql4 := HS4.out.ql
   obtain ⟨z0, z1, z2, z3, z4, z5, z6, z7, z8, z9, z10, z11, zf⟩ := rcells_12 (show w5.heap[w1.heap.size]? = some (.cells #[.slice va vn vc, .int .i64 0, .int .i64 0, .string ⟨#[]⟩, .int .i64 0, .int .i64 0, .int .i64 0, .int .i64 0, .slice none 0 0, .int .i64 0, .slice none 0 0, .int .i64 (ya : Int)] 40 (0, 0)) from hS5.row)
   have he5 : RepRow w5 (w1.heap.size + 1) [] [.c (.int .i64 f1), .c (.int .i64 s1), .c (.string ⟨nm1.toArray⟩), .c (.int .i64 tk1), .c (.int .i64 tl1), .c (.int .i64 n1), .c (.int .i64 m1), .l 37 9 (expsD ks1), .c (.int .i64 a1)] [.int .i64 f1, .int .i64 s1, .string ⟨nm1.toArray⟩, .int .i64 tk1, .int .i64 tl1, .int .i64 n1, .int .i64 m1, .slice ka kn kc, .int .i64 a1] := by
    have h9 := exp_row (x := (.mk f1 s1 nm1 tk1 tl1 n1 m1 ks1 a1)) (E := []) (hk5.mono (Nat.succ_le_of_lt hql4))
    simpa only [expD, expCells] using h9
   have hS6 : Sr (w.alloc ritm0) (((((((((w5.setCell ⟨w1.heap.size, 1, none⟩ (.int .i64 f1)).setCell ⟨w1.heap.size, 2, none⟩ (.int .i64 s1)).setCell ⟨w1.heap.size, 3, none⟩ (.string ⟨nm1.toArray⟩)).setCell ⟨w1.heap.size, 4, none⟩ (.int .i64 tk1)).setCell ⟨w1.heap.size, 5, none⟩ (.int .i64 tl1)).setCell ⟨w1.heap.size, 6, none⟩ (.int .i64 n1)).setCell ⟨w1.heap.size, 7, none⟩ (.int .i64 m1)).setCell ⟨w1.heap.size, 8, none⟩ (.slice ka kn kc)).setCell ⟨w1.heap.size, 9, none⟩ (.int .i64 a1)) b g cap T w1.heap.size t1 40 [.l 9 1 ((acc ++ [nx]).map nameD), .c (.int .i64 f1), .c (.int .i64 s1), .c (.string ⟨nm1.toArray⟩), .c (.int .i64 tk1), .c (.int .i64 tl1), .c (.int .i64 n1), .c (.int .i64 m1), .l 37 9 (expsD ks1), .c (.int .i64 a1), .l 119 6 [], .c (.int .i64 (ya : Int))] [.slice va vn vc, .int .i64 f1, .int .i64 s1, .string ⟨nm1.toArray⟩, .int .i64 tk1, .int .i64 tl1, .int .i64 n1, .int .i64 m1, .slice ka kn kc, .int .i64 a1, .slice none 0 0, .int .i64 (ya : Int)] := hS5.exp1 he5
   have hK := rtake_any b g cap T t1 ⟨#[59]⟩ _ hS6.pa
   rw [show ((⟨#[59]⟩ : ByteArray)).data.toList = [59] from rfl] at hK
   have HS6 := ld hS6
   clear hS6 hS5 he5 hc hk5 hP5 hg5
   refine ld ?_
   go_wp2_with (go_at_call 64; refine hK.mono ?_; rintro e w6 ⟨rfl, hPx, hgx⟩; refine Hid.out ?_)
   have hSE := HS6.out.on hgx hPx
   have hgA := hSE.gr
   (try clear z0 z1 z2 z3 z4 z5 z6 z7 z8 z9 z10 z11 zf)
   obtain ⟨z0, z1, z2, z3, z4, z5, z6, z7, z8, z9, z10, z11, zf⟩ := rcells_12 (show w6.heap[w1.heap.size]? = some (.cells #[.slice va vn vc, .int .i64 f1, .int .i64 s1, .string ⟨nm1.toArray⟩, .int .i64 tk1, .int .i64 tl1, .int .i64 n1, .int .i64 m1, .slice ka kn kc, .int .i64 a1, .slice none 0 0, .int .i64 (ya : Int)] 40 (0, 0)) from hSE.row)
   have HSE := ld hSE
   clear hSE hK hPx hgx
   refine ld ?_
   go_wp2_with (with_reducible refine hold_st 2 ?_)
   refine ld ?_
   refine sg ((hgA.block w.heap.size (by simp) (by simp; omega)).trans (heap_alloc_new w ritm0)) ?_
   intro w7 hh7 hg7
   go_wp2
   (try simp only [Exit.inBlock, Exit.then])
   refine br hh7 Tryz.underlying40 ?_
   have hG : w.grownBy w7 (some b) := ((grown_some (ga w ritm0 none) b).trans hgA).andThen hg7 (fun j e => .inl (by cases e; exact Nat.le_refl _))
   obtain ⟨hkk, hss⟩ := HSE.out.ends hg7 (by simp) (by omega)
   rw [HT2.out]
   refine ⟨_, rfl, ?_, HH.out.to hG hss HSE.out.pa.lt, hG⟩
   simpa only [itemD, expD, statesD, List.cons_append, List.nil_append] using hkk
end
end Go.Proofs.YtonafedbehnneaaGreat
