/- My texts GtO GtN GtP, joined. -/
import Derived.Test.YtachmiajldeakaaGreatDoorMgH
import Derived.Test.YtachmiajldeakaaGreatDoorMgG
set_option linter.unusedVariables false
/- gram's trans (made by mkseq2.py). -/
namespace Go.Proofs.YtachmiajldeakaaGreatDoor
open Go.RowKit Go.Maps Go.WideMaps

def trn0 : Obj := .cells #[.int .i64 0, .int .i64 0, .string ⟨#[]⟩, .int .i64 0, .int .i64 0, .int .i64 0, .int .i64 0, .slice none 0 0, .int .i64 0, .string ⟨#[]⟩, .bool false, .int .i64 0] 222
theorem zrowT (w : World) (B : Nat) : RepRow w B [] [.c (.int .i64 0), .c (.int .i64 0), .c (.string ⟨#[]⟩), .c (.int .i64 0), .c (.int .i64 0), .c (.int .i64 0), .c (.int .i64 0), .l 28 9 [], .c (.int .i64 0), .c (.string ⟨#[]⟩), .c (.bool false), .c (.int .i64 0)] [.int .i64 0, .int .i64 0, .string ⟨#[]⟩, .int .i64 0, .int .i64 0, .int .i64 0, .int .i64 0, .slice none 0 0, .int .i64 0, .string ⟨#[]⟩, .bool false, .int .i64 0] := .cons (.c _) (.cons (.c _) (.cons (.c _) (.cons (.c _) (.cons (.c _) (.cons (.c _) (.cons (.c _) (.cons (RepC.nil _ _ _ _ _) (.cons (.c _) (.cons (.c _) (.cons (.c _) (.cons (.c _) .nil)))))))))))
theorem Ss.setManyG {w0 : World} {b g cap : Nat} {rv : Value} {T : List Lex.Tk} {q i d : Nat} {ty : TypeId} {B' : Nat} (hB : w0.heap.size ≤ B') : ∀ {us : List Value} {es : List D} (o : Nat) {w : World} {ds : List D} {cs : List Value}, Ss w0 w b g cap rv T q i d ty ds cs → RepRow w B' [q] es us → Ss w0 (w.setCells q o us) b g cap rv T q i d ty (setL ds o es) (setL cs o us)
  | _, _, _, _, _, _, h, .nil => h
  | _, _, o, w, _, _, h, .cons (v := u) a t => Ss.setManyG hB (o + 1) (h.setG o hB a) (RepRow.keptX (grown_set w ⟨q, o, none⟩ u) (fun k e => by cases e; right; simp) t)
theorem Ss.all12 {w0 w : World} {b g cap : Nat} {rv : Value} {T : List Lex.Tk} {q i d : Nat} {ty : TypeId} {B' : Nat} {d0 d1 d2 d3 d4 d5 d6 d7 d8 d9 d10 d11 : D} {x0 x1 x2 x3 x4 x5 x6 x7 x8 x9 x10 x11 : Value} {e0 e1 e2 e3 e4 e5 e6 e7 e8 e9 e10 e11 : D} {y0 y1 y2 y3 y4 y5 y6 y7 y8 y9 y10 y11 : Value} (h : Ss w0 w b g cap rv T q i d ty [d0, d1, d2, d3, d4, d5, d6, d7, d8, d9, d10, d11] [x0, x1, x2, x3, x4, x5, x6, x7, x8, x9, x10, x11]) (hB : w0.heap.size ≤ B') (he : RepRow w B' [q] [e0, e1, e2, e3, e4, e5, e6, e7, e8, e9, e10, e11] [y0, y1, y2, y3, y4, y5, y6, y7, y8, y9, y10, y11]) :
    Ss w0 (w.setCells q 0 [y0, y1, y2, y3, y4, y5, y6, y7, y8, y9, y10, y11]) b g cap rv T q i d ty [e0, e1, e2, e3, e4, e5, e6, e7, e8, e9, e10, e11] [y0, y1, y2, y3, y4, y5, y6, y7, y8, y9, y10, y11] := by
  have h9 := h.setManyG hB 0 he
  simp only [setL, List.set, Nat.reduceAdd] at h9
  exact h9

section
variable (b g cap : Nat) (rv : Value) (T : List Lex.Tk) (d : Nat)

set_option maxHeartbeats 12800000 in
set_option maxRecDepth 20000 in
theorem gtrans_any (f i : Nat) (wd : Gram.B) (hwd : wd ≠ []) (w : World) (h : Pa w b g cap rv T i d) (hs : Gram.sees T i wd = true) (hf : (Gram.trans T f d i).isFuel = false) :
    Calls Tryz.prog 206 #[.pointer (some ⟨b, 0, none⟩)] w fun e w' => rPost transD w b g cap rv T d (Gram.trans T f d i) e w' := by
  have hbw := h.bl
  have hP0 := h.alloc trn0
  obtain ⟨R, hR⟩ : ∃ R, R = Gram.trans T f d i := ⟨_, rfl⟩
  rw [← hR] at hf ⊢
  unfold Gram.trans at hR
  have HR := Lib.hid hR
  clear hR
  have htk := gtake_any b g cap rv T i d _ hP0 (h.nextSees hs hwd)
  have HH := Lib.hid h
  clear h hP0
  have hEf : (Gram.exp T f d (i + 1)).isFuel = false := by rw [HR.out] at hf; exact Gram.PR.bind_fuel hf
  go_enter Tryz.func206, Tryz.ntmps206
  go_wp2_with (first | (go_at_call 120; refine htk.mono ?_; rintro e w1 ⟨rfl, hP1, hg1⟩; refine Hid.out ?_))
  have hs1 := hg1.size
  rw [World.size_alloc] at hs1
  have hX := cexp_all b g cap rv T f d (i + 1) w1 hP1 hEf
  clear htk
  cases hr : Gram.exp T f d (i + 1) with
  | fuel => rw [hr] at hEf; cases hEf
  | bad a er =>
    rw [hr] at hX
    simp only [ePost] at hX
    refine Lib.hid ?_
    go_wp2_with (first | (go_at_call 145; refine hX.mono ?_; rintro e w9 ⟨rfl, hgz⟩))
    refine ⟨rfl, ?_⟩
    rw [HR.out, hr]
    exact ⟨rfl, (grown_some (World.grownBy_alloc w trn0 none) b).trans (hg1.trans hgz)⟩
  | ok y k =>
  cases y with
  | mk f1 s1 nm1 tk1 tl1 n1 m1 ks1 a1 =>
  rw [hr] at hX
  simp only [ePost, expV] at hX
  have HT0 : Hid (R = (if Gram.sees T k [99, 111, 110, 116, 105, 110, 117, 101] then Gram.PR.ok true (k + 1) else (Gram.expect T k [116, 104, 101, 110]).bind fun _ k => .ok false k).bind fun ct j => (Gram.name T j).bind fun n j => (Gram.expect T j [59]).bind fun _ j => .ok (⟨(.mk f1 s1 nm1 tk1 tl1 n1 m1 ks1 a1), n, ct, a1⟩ : Gram.Trans) j) := by show _ = _; rw [HR.out, hr]; rfl
  clear HR hr hEf
  refine Lib.hid ?_
  go_wp2_with (first | (go_at_call 145; refine hX.mono ?_; rintro e w2 ⟨k2, rfl, hk2, hP2, hg2⟩; obtain ⟨ka, kn, kc, rfl⟩ := hk2.form; refine Hid.out ?_))
  have hs2 := hg2.size
  have HK2 := Lib.hid hk2
  clear hk2 hX
  have hsD : (w2.alloc (.cells #[.int .i64 f1, .int .i64 s1, .string ⟨nm1.toArray⟩, .int .i64 tk1, .int .i64 tl1, .int .i64 n1, .int .i64 m1, .slice ka kn kc, .int .i64 a1] 28)).drew.heap.size = w2.heap.size + 1 := by show (w2.alloc (.cells #[.int .i64 f1, .int .i64 s1, .string ⟨nm1.toArray⟩, .int .i64 tk1, .int .i64 tl1, .int .i64 n1, .int .i64 m1, .slice ka kn kc, .int .i64 a1] 28)).heap.size = _; simp
  have hg2D : w2.grownBy (w2.alloc (.cells #[.int .i64 f1, .int .i64 s1, .string ⟨nm1.toArray⟩, .int .i64 tk1, .int .i64 tl1, .int .i64 n1, .int .i64 m1, .slice ka kn kc, .int .i64 a1] 28)).drew (some b) := gdrew (World.grownBy_alloc w2 _ (some b))
  have hgD : (w.alloc trn0).grownBy (w2.alloc (.cells #[.int .i64 f1, .int .i64 s1, .string ⟨nm1.toArray⟩, .int .i64 tk1, .int .i64 tl1, .int .i64 n1, .int .i64 m1, .slice ka kn kc, .int .i64 a1] 28)).drew (some b) := (hg1.trans hg2).trans hg2D
  have hPd : Pa (w2.alloc (.cells #[.int .i64 f1, .int .i64 s1, .string ⟨nm1.toArray⟩, .int .i64 tk1, .int .i64 tl1, .int .i64 n1, .int .i64 m1, .slice ka kn kc, .int .i64 a1] 28)).drew b g cap rv T k d := (hP2.alloc _).kept (gdrew (World.grownBy.refl _ _))
  obtain ⟨c0, c1, c2, c3, c4, c5, c6, c7, c8, cf⟩ := Nc.of (show (w2.alloc (.cells #[.int .i64 f1, .int .i64 s1, .string ⟨nm1.toArray⟩, .int .i64 tk1, .int .i64 tl1, .int .i64 n1, .int .i64 m1, .slice ka kn kc, .int .i64 a1] 28)).drew.heap[w2.heap.size]? = some (.cells #[.int .i64 f1, .int .i64 s1, .string ⟨nm1.toArray⟩, .int .i64 tk1, .int .i64 tl1, .int .i64 n1, .int .i64 m1, .slice ka kn kc, .int .i64 a1] 28 (0, 0)) from heap_alloc_new w2 _)
  have hQ0 := And.intro c0 (And.intro c1 (And.intro c2 (And.intro c3 (And.intro c4 (And.intro c5 (And.intro c6 (And.intro c7 c8)))))))
  have hEb : some w2.heap.size ≠ some b := by simp; omega
  have hQk : ∀ (wx wy : World), (wx.cell? ⟨w2.heap.size, 0, none⟩ = some (.int .i64 f1) ∧ wx.cell? ⟨w2.heap.size, 1, none⟩ = some (.int .i64 s1) ∧ wx.cell? ⟨w2.heap.size, 2, none⟩ = some (.string ⟨nm1.toArray⟩) ∧ wx.cell? ⟨w2.heap.size, 3, none⟩ = some (.int .i64 tk1) ∧ wx.cell? ⟨w2.heap.size, 4, none⟩ = some (.int .i64 tl1) ∧ wx.cell? ⟨w2.heap.size, 5, none⟩ = some (.int .i64 n1) ∧ wx.cell? ⟨w2.heap.size, 6, none⟩ = some (.int .i64 m1) ∧ wx.cell? ⟨w2.heap.size, 7, none⟩ = some (.slice ka kn kc) ∧ wx.cell? ⟨w2.heap.size, 8, none⟩ = some (.int .i64 a1)) → wx.grownBy wy (some b) → (wy.cell? ⟨w2.heap.size, 0, none⟩ = some (.int .i64 f1) ∧ wy.cell? ⟨w2.heap.size, 1, none⟩ = some (.int .i64 s1) ∧ wy.cell? ⟨w2.heap.size, 2, none⟩ = some (.string ⟨nm1.toArray⟩) ∧ wy.cell? ⟨w2.heap.size, 3, none⟩ = some (.int .i64 tk1) ∧ wy.cell? ⟨w2.heap.size, 4, none⟩ = some (.int .i64 tl1) ∧ wy.cell? ⟨w2.heap.size, 5, none⟩ = some (.int .i64 n1) ∧ wy.cell? ⟨w2.heap.size, 6, none⟩ = some (.int .i64 m1) ∧ wy.cell? ⟨w2.heap.size, 7, none⟩ = some (.slice ka kn kc) ∧ wy.cell? ⟨w2.heap.size, 8, none⟩ = some (.int .i64 a1)) := fun wx wy h hg => ⟨hg.cell h.1 hEb, hg.cell h.2.1 hEb, hg.cell h.2.2.1 hEb, hg.cell h.2.2.2.1 hEb, hg.cell h.2.2.2.2.1 hEb, hg.cell h.2.2.2.2.2.1 hEb, hg.cell h.2.2.2.2.2.2.1 hEb, hg.cell h.2.2.2.2.2.2.2.1 hEb, hg.cell h.2.2.2.2.2.2.2.2 hEb⟩
  clear c0 c1 c2 c3 c4 c5 c6 c7 c8 cf
  rcases Bool.eq_false_or_eq_true (Gram.sees T k [99, 111, 110, 116, 105, 110, 117, 101]) with hc | hc
  · have hA := fun wx (hx : Pa wx b g cap rv T k d) => gaccept_yes b g cap rv T k d ⟨#[99, 111, 110, 116, 105, 110, 117, 101]⟩ wx hx hc (hx.nextSees hc (by decide))
    have HT1 : Hid (R = (Gram.name T (k + 1)).bind fun n j => (Gram.expect T j [59]).bind fun _ j => .ok (⟨(.mk f1 s1 nm1 tk1 tl1 n1 m1 ks1 a1), n, true, a1⟩ : Gram.Trans) j) := by show _ = _; rw [HT0.out, if_pos hc]; rfl
    clear HT0
    refine Lib.hid ?_
    go_wp2
    refine wp_region_L (S := fun w' => w'.cell? ⟨w2.heap.size, 0, none⟩ = some (.int .i64 f1) ∧ w'.cell? ⟨w2.heap.size, 1, none⟩ = some (.int .i64 s1) ∧ w'.cell? ⟨w2.heap.size, 2, none⟩ = some (.string ⟨nm1.toArray⟩) ∧ w'.cell? ⟨w2.heap.size, 3, none⟩ = some (.int .i64 tk1) ∧ w'.cell? ⟨w2.heap.size, 4, none⟩ = some (.int .i64 tl1) ∧ w'.cell? ⟨w2.heap.size, 5, none⟩ = some (.int .i64 n1) ∧ w'.cell? ⟨w2.heap.size, 6, none⟩ = some (.int .i64 m1) ∧ w'.cell? ⟨w2.heap.size, 7, none⟩ = some (.slice ka kn kc) ∧ w'.cell? ⟨w2.heap.size, 8, none⟩ = some (.int .i64 a1)) (Z := [7]) (by kernel_rfl) ?_
    refine wpL_take (i := 0) (v := .agg #[.int .i64 f1, .int .i64 s1, .string ⟨nm1.toArray⟩, .int .i64 tk1, .int .i64 tl1, .int .i64 n1, .int .i64 m1, .slice ka kn kc, .int .i64 a1]) rfl (by kernel_rfl) (by kernel_rfl) (by kernel_rfl) (fun _ _ _ h => h) (by kernel_rfl) (.inl ⟨rfl, fun w' hw' => ?_⟩) hQ0 ?_
    · obtain ⟨q0, q1, q2, q3, q4, q5, q6, q7, q8⟩ := hw'
      go_simp
    refine wpL_take (i := 1) (v := .pointer (some ⟨w2.heap.size, 8, none⟩)) rfl (by kernel_rfl) (by kernel_rfl) (by kernel_rfl) (fun _ _ _ h => h) (by kernel_rfl) (.inl ⟨rfl, fun w' hw' => ?_⟩) hQ0 ?_
    · obtain ⟨q0, q1, q2, q3, q4, q5, q6, q7, q8⟩ := hw'
      go_simp
    refine wpL_take (i := 2) (v := .int .i64 a1) rfl (by kernel_rfl) (by kernel_rfl) (by kernel_rfl) (fun _ _ _ h => h) (by kernel_rfl) (.inl ⟨rfl, fun w' hw' => ?_⟩) hQ0 ?_
    · obtain ⟨q0, q1, q2, q3, q4, q5, q6, q7, q8⟩ := hw'
      go_simp
    refine wpL_take (i := 3) (v := .pointer (some ⟨b, 0, none⟩)) rfl (by kernel_rfl) (by kernel_rfl) (by kernel_rfl) (fun _ _ _ h => h) (by kernel_rfl) (.inl ⟨rfl, fun w' hw' => ?_⟩) hQ0 ?_
    · obtain ⟨q0, q1, q2, q3, q4, q5, q6, q7, q8⟩ := hw'
      go_simp
    refine wpL_two (i := 4) (j := 6) (by kernel_rfl) ?_ ?_
    · refine wpOp_step rfl (fun K' hK => ?_)
      split
      case isFalse hno => exact absurd rfl hno
      unfold Oper.wp
      go_simp
      refine (hA _ hPd).mono ?_
      rintro e w3 ⟨rfl, hP3, hg3⟩
      refine hK _ _ ⟨fun _ => hQk _ _ hQ0 hg3, ?_⟩
      clear hK K'
      refine wpL_take (i := 5) (v := .agg #[.int .i64 f1, .int .i64 s1, .string ⟨nm1.toArray⟩, .int .i64 tk1, .int .i64 tl1, .int .i64 n1, .int .i64 m1, .slice ka kn kc, .int .i64 a1, .string ⟨#[]⟩, .bool true, .int .i64 a1]) rfl (by kernel_rfl) (by kernel_rfl) (by kernel_rfl) (fun _ _ _ h => h) (by kernel_rfl) (.inl ⟨rfl, fun w' hw' => ?_⟩) (hQk _ _ hQ0 hg3) ?_
      · go_simp
      refine wpL_one (i := 6) (by kernel_rfl) ?_
      refine wpOp_step rfl (fun K' hK => ?_)
      split
      case isFalse hno => exact absurd rfl hno
      unfold Oper.wp
      go_simp
      refine hK _ _ ⟨fun _ => hQk _ _ (hQk _ _ hQ0 hg3) (World.grownBy_alloc w3 _ (some b)), ?_⟩
      clear hK K'
      have hs3 := hg3.size
      rw [hsD] at hs3
      obtain ⟨w4, hw4⟩ : ∃ W, W = w3.alloc trn0 := ⟨_, rfl⟩
      have hS0 : Ss (w.alloc trn0) w4 b g cap rv T w3.heap.size (k + 1) d 222 [.c (.int .i64 0), .c (.int .i64 0), .c (.string ⟨#[]⟩), .c (.int .i64 0), .c (.int .i64 0), .c (.int .i64 0), .c (.int .i64 0), .l 28 9 [], .c (.int .i64 0), .c (.string ⟨#[]⟩), .c (.bool false), .c (.int .i64 0)] [.int .i64 0, .int .i64 0, .string ⟨#[]⟩, .int .i64 0, .int .i64 0, .int .i64 0, .int .i64 0, .slice none 0 0, .int .i64 0, .string ⟨#[]⟩, .bool false, .int .i64 0] := by
        rw [hw4]
        exact Ss.make ⟨i, HH.out.alloc trn0⟩ (hP3.alloc _) (galloc (hgD.trans hg3) _) (by simp; omega) (heap_alloc_new w3 _) (zrowT _ _)
      have hkk : KidsX w4 w1.heap.size [w3.heap.size] ks1 (.slice ka kn kc) := by
        rw [hw4]
        exact RepC.kept (World.grownBy_alloc w3 _ none) (fun k e => by cases e) (RepC.keptX (hg2D.trans hg3) (fun k e => by cases e; left; omega) (RepC.toX [w3.heap.size] (fun k e => .inl (by simp at e; omega)) HK2.out))
      rw [show w3.alloc (.cells #[.int .i64 0, .int .i64 0, .string ⟨#[]⟩, .int .i64 0, .int .i64 0, .int .i64 0, .int .i64 0, .slice none 0 0, .int .i64 0, .string ⟨#[]⟩, .bool false, .int .i64 0] 222) = w4 from hw4.symm]
      clear hw4
      have hth : w4.there w3.heap.size 0 12 := fun j hj => by
        refine ⟨?_, frozen_of_row w4 w3.heap.size _ _ _ hS0.row⟩
        rw [cell_of_row w4 w3.heap.size _ _ _ _ hS0.row]
        simp; omega
      refine wpL_one (i := 7) (by kernel_rfl) ?_
      refine wpOp_step rfl (fun K' hK => ?_)
      split
      case isFalse hno => exact absurd rfl hno
      refine wp_store_mid _ _ _ rfl w3.heap.size 0 #[.int .i64 f1, .int .i64 s1, .string ⟨nm1.toArray⟩, .int .i64 tk1, .int .i64 tl1, .int .i64 n1, .int .i64 m1, .slice ka kn kc, .int .i64 a1, .string ⟨#[]⟩, .bool true, .int .i64 a1] (by go_simp) (by go_simp) hth (by kernel_rfl) (by simp [Value.oneCell']) ?_
      have hre : RepRow w4 w1.heap.size [w3.heap.size] [.c (.int .i64 f1), .c (.int .i64 s1), .c (.string ⟨nm1.toArray⟩), .c (.int .i64 tk1), .c (.int .i64 tl1), .c (.int .i64 n1), .c (.int .i64 m1), .l 28 9 (expsD ks1), .c (.int .i64 a1), .c (.string ⟨#[]⟩), .c (.bool true), .c (.int .i64 a1)] [.int .i64 f1, .int .i64 s1, .string ⟨nm1.toArray⟩, .int .i64 tk1, .int .i64 tl1, .int .i64 n1, .int .i64 m1, .slice ka kn kc, .int .i64 a1, .string ⟨#[]⟩, .bool true, .int .i64 a1] := by
        have h9 := (exp_row (x := (.mk f1 s1 nm1 tk1 tl1 n1 m1 ks1 a1)) hkk).append (.cons (.c (.string ⟨#[]⟩)) (.cons (.c (.bool true)) (.cons (.c (.int .i64 a1)) .nil)))
        simpa only [expD, expCells, List.cons_append, List.nil_append] using h9
      have hS1' := hS0.all12 (B' := w1.heap.size) (by simp; omega) hre
      obtain ⟨W5, hWW⟩ : ∃ W, W = w4.setCells w3.heap.size 0 [.int .i64 f1, .int .i64 s1, .string ⟨nm1.toArray⟩, .int .i64 tk1, .int .i64 tl1, .int .i64 n1, .int .i64 m1, .slice ka kn kc, .int .i64 a1, .string ⟨#[]⟩, .bool true, .int .i64 a1] := ⟨_, rfl⟩
      rw [← hWW] at hS1'
      rw [show w4.setCells w3.heap.size 0 (Array.toList #[.int .i64 f1, .int .i64 s1, .string ⟨nm1.toArray⟩, .int .i64 tk1, .int .i64 tl1, .int .i64 n1, .int .i64 m1, .slice ka kn kc, .int .i64 a1, .string ⟨#[]⟩, .bool true, .int .i64 a1]) = W5 from hWW.symm]
      have hS1 := hS1'
      clear hWW hre hth hS0 hS1' hkk
      refine hK _ _ ⟨fun hno => absurd (by simp) hno, ?_⟩
      clear hK K'
      refine wpL_done (by kernel_rfl) ?_ _
      refine Hid.out ?_
      obtain ⟨z0, z1, z2, z3, z4, z5, z6, z7, z8, z9, z10, z11, zf⟩ := cells_12 (show W5.heap[w3.heap.size]? = some (.cells #[.int .i64 f1, .int .i64 s1, .string ⟨nm1.toArray⟩, .int .i64 tk1, .int .i64 tl1, .int .i64 n1, .int .i64 m1, .slice ka kn kc, .int .i64 a1, .string ⟨#[]⟩, .bool true, .int .i64 a1] 222 (0, 0)) from hS1.row)
      rcases Bool.eq_false_or_eq_true (Gram.isName T (k + 1)) with e1 | e1
      case inr =>
        have hN := gname_no b g cap rv T (k + 1) d _ hS1.pa e1
        have hg9 := hS1.gr
        refine Lib.hid ?_
        go_wp2_with (first | (go_at_call 78; refine hN.mono ?_; rintro e w9 ⟨rfl, hgz⟩))
        refine ⟨rfl, ?_⟩
        rw [HT1.out]
        unfold Gram.name Gram.need Gram.fail
        rw [if_neg (by rw [e1]; decide)]
        exact ⟨rfl, (grown_some (World.grownBy_alloc w trn0 none) b).trans (hg9.trans hgz)⟩
      have hN1 := gname_yes b g cap rv T (k + 1) d _ hS1.pa e1
      have HS1 := Lib.hid hS1
      clear hS1
      have HT2 : Hid (R = (Gram.expect T ((k + 1) + 1) [59]).bind fun _ j => .ok (⟨(.mk f1 s1 nm1 tk1 tl1 n1 m1 ks1 a1), (Gram.tk T (k + 1)).text, true, a1⟩ : Gram.Trans) j) := by show _ = _; rw [HT1.out]; unfold Gram.name Gram.need; rw [if_pos e1]; rfl
      clear HT1
      generalize (Gram.tk T (k + 1)).text = nx1 at hN1 HT2
      refine Lib.hid ?_
      go_wp2_with (first | (go_at_call 78; refine hN1.mono ?_; rintro e x1 ⟨rfl, hP1, hg1⟩; refine Hid.out ?_))
      clear z0 z1 z2 z3 z4 z5 z6 z7 z8 z9 z10 z11 zf
      have hSa := HS1.out.on hg1 hP1
      obtain ⟨z0, z1, z2, z3, z4, z5, z6, z7, z8, z9, z10, z11, zf⟩ := cells_12 (show x1.heap[w3.heap.size]? = some (.cells #[.int .i64 f1, .int .i64 s1, .string ⟨nm1.toArray⟩, .int .i64 tk1, .int .i64 tl1, .int .i64 n1, .int .i64 m1, .slice ka kn kc, .int .i64 a1, .string ⟨#[]⟩, .bool true, .int .i64 a1] 222 (0, 0)) from hSa.row)
      have hS2 : Ss (w.alloc trn0) (x1.setCell ⟨w3.heap.size, 9, none⟩ (.string ⟨nx1.toArray⟩)) b g cap rv T w3.heap.size ((k + 1) + 1) d 222 [.c (.int .i64 f1), .c (.int .i64 s1), .c (.string ⟨nm1.toArray⟩), .c (.int .i64 tk1), .c (.int .i64 tl1), .c (.int .i64 n1), .c (.int .i64 m1), .l 28 9 (expsD ks1), .c (.int .i64 a1), .c (.string ⟨nx1.toArray⟩), .c (.bool true), .c (.int .i64 a1)] [.int .i64 f1, .int .i64 s1, .string ⟨nm1.toArray⟩, .int .i64 tk1, .int .i64 tl1, .int .i64 n1, .int .i64 m1, .slice ka kn kc, .int .i64 a1, .string ⟨nx1.toArray⟩, .bool true, .int .i64 a1] := hSa.set 9 (.c _)
      clear hSa hN1 hP1 hg1 HS1
      rcases Bool.eq_false_or_eq_true (Gram.sees T ((k + 1) + 1) [59]) with e2 | e2
      case inr =>
        have hN := gexpect_no b g cap rv T ((k + 1) + 1) d ⟨#[59]⟩ _ hS2.pa e2
        have hg9 := hS2.gr
        refine Lib.hid ?_
        go_wp2_with (first | (go_at_call 77; refine hN.mono ?_; rintro e w9 ⟨rfl, hgz⟩))
        refine ⟨rfl, ?_⟩
        rw [HT2.out, Gram.expect_no e2]
        exact ⟨rfl, (grown_some (World.grownBy_alloc w trn0 none) b).trans (hg9.trans hgz)⟩
      have hN2 := gexpect_yes b g cap rv T ((k + 1) + 1) d ⟨#[59]⟩ _ hS2.pa e2 (hS2.pa.nextSees e2 (by decide))
      have HS2 := Lib.hid hS2
      clear hS2
      refine Lib.hid ?_
      go_wp2_with (first | (go_at_call 77; refine hN2.mono ?_; rintro e x2 ⟨rfl, hP2, hg2⟩; refine Hid.out ?_))
      have hS3 := HS2.out.on hg2 hP2
      have HT3 : Hid (R = Gram.PR.ok (⟨(.mk f1 s1 nm1 tk1 tl1 n1 m1 ks1 a1), nx1, true, a1⟩ : Gram.Trans) (((k + 1) + 1) + 1)) := by show _ = _; rw [HT2.out, Gram.expect_yes e2]; rfl
      clear HT2 hN2 HS2 hP2 hg2
      clear z0 z1 z2 z3 z4 z5 z6 z7 z8 z9 z10 z11 zf
      have hgA := hS3.gr
      obtain ⟨y0, y1, y2, y3, y4, y5, y6, y7, y8, y9, y10, y11, yf⟩ := cells_12 (show x2.heap[w3.heap.size]? = some (.cells #[.int .i64 f1, .int .i64 s1, .string ⟨nm1.toArray⟩, .int .i64 tk1, .int .i64 tl1, .int .i64 n1, .int .i64 m1, .slice ka kn kc, .int .i64 a1, .string ⟨nx1.toArray⟩, .bool true, .int .i64 a1] 222 (0, 0)) from hS3.row)
      have HSE := Lib.hid hS3
      clear hS3
      refine Lib.hid ?_
      go_wp2_with (with_reducible refine hold_st 2 ?_)
      refine Lib.hid ?_
      refine wpList_store_gen rfl _ _ _ rfl w.heap.size _ rfl rfl 222 _ ((hgA.block w.heap.size (by simp) (by simp; omega)).trans (heap_alloc_new w trn0)) (by kernel_rfl) rfl (by simp [Value.oneCell']) ?_
      intro w7 hh7 hg7
      go_wp2
      (try simp only [Exit.inBlock, Exit.then])
      refine bodyPost_ret (results_cell_row rfl _ _ w.heap.size 222 _ (0, 0) _ rfl hh7 Tryz.underlying222 rfl (by kernel_rfl)) rfl ?_
      have hG : w.grownBy w7 (some b) := ((grown_some (World.grownBy_alloc w trn0 none) b).trans hgA).andThen hg7 (fun j e => .inl (by cases e; exact Nat.le_refl _))
      obtain ⟨hkk, hss⟩ := HSE.out.ends hg7 (by simp) (by omega)
      rw [HT3.out]
      refine ⟨_, rfl, ?_, HH.out.to hG hss HSE.out.pa.lt, hG⟩
      simpa only [transD, expD, List.cons_append, List.nil_append] using hkk
    · refine wpOp_step rfl (fun K' hK => ?_)
      split
      case isFalse hno => exact absurd rfl hno
      unfold Oper.wp
      go_simp
      refine hK _ _ ⟨fun _ => hQk _ _ hQ0 (World.grownBy_alloc (w2.alloc (.cells #[.int .i64 f1, .int .i64 s1, .string ⟨nm1.toArray⟩, .int .i64 tk1, .int .i64 tl1, .int .i64 n1, .int .i64 m1, .slice ka kn kc, .int .i64 a1] 28)).drew _ (some b)), ?_⟩
      clear hK K'
      obtain ⟨w3, hw3⟩ : ∃ W, W = (w2.alloc (.cells #[.int .i64 f1, .int .i64 s1, .string ⟨nm1.toArray⟩, .int .i64 tk1, .int .i64 tl1, .int .i64 n1, .int .i64 m1, .slice ka kn kc, .int .i64 a1] 28)).drew.alloc trn0 := ⟨_, rfl⟩
      have hga : (w2.alloc (.cells #[.int .i64 f1, .int .i64 s1, .string ⟨nm1.toArray⟩, .int .i64 tk1, .int .i64 tl1, .int .i64 n1, .int .i64 m1, .slice ka kn kc, .int .i64 a1] 28)).drew.grownBy w3 none := by rw [hw3]; exact World.grownBy_alloc _ _ _
      have hq3 : w3.heap[w2.heap.size + 1]? = some trn0 := by
        have e := heap_alloc_new (w2.alloc (.cells #[.int .i64 f1, .int .i64 s1, .string ⟨nm1.toArray⟩, .int .i64 tk1, .int .i64 tl1, .int .i64 n1, .int .i64 m1, .slice ka kn kc, .int .i64 a1] 28)).drew trn0
        rw [hsD] at e
        rw [hw3]; exact e
      have hs3 : w3.heap.size = w2.heap.size + 1 + 1 := by rw [hw3, World.size_alloc, hsD]
      have hP3 : Pa w3 b g cap rv T k d := hPd.kept hga
      refine wpL_one (i := 4) (by kernel_rfl) ?_
      refine wpOp_step rfl (fun K' hK => ?_)
      split
      case isFalse hno => exact absurd rfl hno
      unfold Oper.wp
      go_simp
      rw [show (((w2.alloc (.cells #[.int .i64 f1, .int .i64 s1, .string ⟨nm1.toArray⟩, .int .i64 tk1, .int .i64 tl1, .int .i64 n1, .int .i64 m1, .slice ka kn kc, .int .i64 a1] 28)).alloc (.cells #[.int .i64 0, .int .i64 0, .string ⟨#[]⟩, .int .i64 0, .int .i64 0, .int .i64 0, .int .i64 0, .slice none 0 0, .int .i64 0, .string ⟨#[]⟩, .bool false, .int .i64 0] 222)).drew : World) = w3 from hw3.symm]
      refine (hA _ hP3).mono ?_
      rintro e w4 ⟨rfl, hP4, hg4⟩
      clear hw3
      refine hK _ _ ⟨fun _ => hQk _ _ (hQk _ _ hQ0 (grown_some hga b)) hg4, ?_⟩
      clear hK K'
      refine wpL_take (i := 5) (v := .agg #[.int .i64 f1, .int .i64 s1, .string ⟨nm1.toArray⟩, .int .i64 tk1, .int .i64 tl1, .int .i64 n1, .int .i64 m1, .slice ka kn kc, .int .i64 a1, .string ⟨#[]⟩, .bool true, .int .i64 a1]) rfl (by kernel_rfl) (by kernel_rfl) (by kernel_rfl) (fun _ _ _ h => h) (by kernel_rfl) (.inl ⟨rfl, fun w' hw' => ?_⟩) (hQk _ _ (hQk _ _ hQ0 (grown_some hga b)) hg4) ?_
      · go_simp
      have hS0 : Ss (w.alloc trn0) w4 b g cap rv T (w2.heap.size + 1) (k + 1) d 222 [.c (.int .i64 0), .c (.int .i64 0), .c (.string ⟨#[]⟩), .c (.int .i64 0), .c (.int .i64 0), .c (.int .i64 0), .c (.int .i64 0), .l 28 9 [], .c (.int .i64 0), .c (.string ⟨#[]⟩), .c (.bool false), .c (.int .i64 0)] [.int .i64 0, .int .i64 0, .string ⟨#[]⟩, .int .i64 0, .int .i64 0, .int .i64 0, .int .i64 0, .slice none 0 0, .int .i64 0, .string ⟨#[]⟩, .bool false, .int .i64 0] :=
        Ss.make ⟨i, HH.out.alloc trn0⟩ hP4 ((hgD.trans (grown_some hga b)).trans hg4) (by simp; omega) ((hg4.block (w2.heap.size + 1) (by omega) (by simp; omega)).trans hq3) (zrowT _ _)
      have hkk : KidsX w4 w1.heap.size [w2.heap.size + 1] ks1 (.slice ka kn kc) :=
        RepC.keptX ((hg2D.trans (grown_some hga b)).trans hg4) (fun k e => by cases e; left; omega) (RepC.toX [w2.heap.size + 1] (fun k e => .inl (by simp at e; omega)) HK2.out)
      have hth : w4.there (w2.heap.size + 1) 0 12 := fun j hj => by
        refine ⟨?_, frozen_of_row w4 (w2.heap.size + 1) _ _ _ hS0.row⟩
        rw [cell_of_row w4 (w2.heap.size + 1) _ _ _ _ hS0.row]
        simp; omega
      refine wpL_one (i := 7) (by kernel_rfl) ?_
      refine wpOp_step rfl (fun K' hK => ?_)
      split
      case isFalse hno => exact absurd rfl hno
      refine wp_store_mid _ _ _ rfl (w2.heap.size + 1) 0 #[.int .i64 f1, .int .i64 s1, .string ⟨nm1.toArray⟩, .int .i64 tk1, .int .i64 tl1, .int .i64 n1, .int .i64 m1, .slice ka kn kc, .int .i64 a1, .string ⟨#[]⟩, .bool true, .int .i64 a1] (by go_simp) (by go_simp) hth (by kernel_rfl) (by simp [Value.oneCell']) ?_
      have hre : RepRow w4 w1.heap.size [(w2.heap.size + 1)] [.c (.int .i64 f1), .c (.int .i64 s1), .c (.string ⟨nm1.toArray⟩), .c (.int .i64 tk1), .c (.int .i64 tl1), .c (.int .i64 n1), .c (.int .i64 m1), .l 28 9 (expsD ks1), .c (.int .i64 a1), .c (.string ⟨#[]⟩), .c (.bool true), .c (.int .i64 a1)] [.int .i64 f1, .int .i64 s1, .string ⟨nm1.toArray⟩, .int .i64 tk1, .int .i64 tl1, .int .i64 n1, .int .i64 m1, .slice ka kn kc, .int .i64 a1, .string ⟨#[]⟩, .bool true, .int .i64 a1] := by
        have h9 := (exp_row (x := (.mk f1 s1 nm1 tk1 tl1 n1 m1 ks1 a1)) hkk).append (.cons (.c (.string ⟨#[]⟩)) (.cons (.c (.bool true)) (.cons (.c (.int .i64 a1)) .nil)))
        simpa only [expD, expCells, List.cons_append, List.nil_append] using h9
      have hS1' := hS0.all12 (B' := w1.heap.size) (by simp; omega) hre
      obtain ⟨W5, hWW⟩ : ∃ W, W = w4.setCells (w2.heap.size + 1) 0 [.int .i64 f1, .int .i64 s1, .string ⟨nm1.toArray⟩, .int .i64 tk1, .int .i64 tl1, .int .i64 n1, .int .i64 m1, .slice ka kn kc, .int .i64 a1, .string ⟨#[]⟩, .bool true, .int .i64 a1] := ⟨_, rfl⟩
      rw [← hWW] at hS1'
      rw [show w4.setCells (w2.heap.size + 1) 0 (Array.toList #[.int .i64 f1, .int .i64 s1, .string ⟨nm1.toArray⟩, .int .i64 tk1, .int .i64 tl1, .int .i64 n1, .int .i64 m1, .slice ka kn kc, .int .i64 a1, .string ⟨#[]⟩, .bool true, .int .i64 a1]) = W5 from hWW.symm]
      have hS1 := hS1'
      clear hWW hre hth hS0 hS1' hkk
      refine hK _ _ ⟨fun hno => absurd (by simp) hno, ?_⟩
      clear hK K'
      refine wpL_done (by kernel_rfl) ?_ _
      refine Hid.out ?_
      obtain ⟨z0, z1, z2, z3, z4, z5, z6, z7, z8, z9, z10, z11, zf⟩ := cells_12 (show W5.heap[(w2.heap.size + 1)]? = some (.cells #[.int .i64 f1, .int .i64 s1, .string ⟨nm1.toArray⟩, .int .i64 tk1, .int .i64 tl1, .int .i64 n1, .int .i64 m1, .slice ka kn kc, .int .i64 a1, .string ⟨#[]⟩, .bool true, .int .i64 a1] 222 (0, 0)) from hS1.row)
      rcases Bool.eq_false_or_eq_true (Gram.isName T (k + 1)) with e1 | e1
      case inr =>
        have hN := gname_no b g cap rv T (k + 1) d _ hS1.pa e1
        have hg9 := hS1.gr
        refine Lib.hid ?_
        go_wp2_with (first | (go_at_call 78; refine hN.mono ?_; rintro e w9 ⟨rfl, hgz⟩))
        refine ⟨rfl, ?_⟩
        rw [HT1.out]
        unfold Gram.name Gram.need Gram.fail
        rw [if_neg (by rw [e1]; decide)]
        exact ⟨rfl, (grown_some (World.grownBy_alloc w trn0 none) b).trans (hg9.trans hgz)⟩
      have hN1 := gname_yes b g cap rv T (k + 1) d _ hS1.pa e1
      have HS1 := Lib.hid hS1
      clear hS1
      have HT2 : Hid (R = (Gram.expect T ((k + 1) + 1) [59]).bind fun _ j => .ok (⟨(.mk f1 s1 nm1 tk1 tl1 n1 m1 ks1 a1), (Gram.tk T (k + 1)).text, true, a1⟩ : Gram.Trans) j) := by show _ = _; rw [HT1.out]; unfold Gram.name Gram.need; rw [if_pos e1]; rfl
      clear HT1
      generalize (Gram.tk T (k + 1)).text = nx1 at hN1 HT2
      refine Lib.hid ?_
      go_wp2_with (first | (go_at_call 78; refine hN1.mono ?_; rintro e x1 ⟨rfl, hP1, hg1⟩; refine Hid.out ?_))
      clear z0 z1 z2 z3 z4 z5 z6 z7 z8 z9 z10 z11 zf
      have hSa := HS1.out.on hg1 hP1
      obtain ⟨z0, z1, z2, z3, z4, z5, z6, z7, z8, z9, z10, z11, zf⟩ := cells_12 (show x1.heap[(w2.heap.size + 1)]? = some (.cells #[.int .i64 f1, .int .i64 s1, .string ⟨nm1.toArray⟩, .int .i64 tk1, .int .i64 tl1, .int .i64 n1, .int .i64 m1, .slice ka kn kc, .int .i64 a1, .string ⟨#[]⟩, .bool true, .int .i64 a1] 222 (0, 0)) from hSa.row)
      have hS2 : Ss (w.alloc trn0) (x1.setCell ⟨(w2.heap.size + 1), 9, none⟩ (.string ⟨nx1.toArray⟩)) b g cap rv T (w2.heap.size + 1) ((k + 1) + 1) d 222 [.c (.int .i64 f1), .c (.int .i64 s1), .c (.string ⟨nm1.toArray⟩), .c (.int .i64 tk1), .c (.int .i64 tl1), .c (.int .i64 n1), .c (.int .i64 m1), .l 28 9 (expsD ks1), .c (.int .i64 a1), .c (.string ⟨nx1.toArray⟩), .c (.bool true), .c (.int .i64 a1)] [.int .i64 f1, .int .i64 s1, .string ⟨nm1.toArray⟩, .int .i64 tk1, .int .i64 tl1, .int .i64 n1, .int .i64 m1, .slice ka kn kc, .int .i64 a1, .string ⟨nx1.toArray⟩, .bool true, .int .i64 a1] := hSa.set 9 (.c _)
      clear hSa hN1 hP1 hg1 HS1
      rcases Bool.eq_false_or_eq_true (Gram.sees T ((k + 1) + 1) [59]) with e2 | e2
      case inr =>
        have hN := gexpect_no b g cap rv T ((k + 1) + 1) d ⟨#[59]⟩ _ hS2.pa e2
        have hg9 := hS2.gr
        refine Lib.hid ?_
        go_wp2_with (first | (go_at_call 77; refine hN.mono ?_; rintro e w9 ⟨rfl, hgz⟩))
        refine ⟨rfl, ?_⟩
        rw [HT2.out, Gram.expect_no e2]
        exact ⟨rfl, (grown_some (World.grownBy_alloc w trn0 none) b).trans (hg9.trans hgz)⟩
      have hN2 := gexpect_yes b g cap rv T ((k + 1) + 1) d ⟨#[59]⟩ _ hS2.pa e2 (hS2.pa.nextSees e2 (by decide))
      have HS2 := Lib.hid hS2
      clear hS2
      refine Lib.hid ?_
      go_wp2_with (first | (go_at_call 77; refine hN2.mono ?_; rintro e x2 ⟨rfl, hP2, hg2⟩; refine Hid.out ?_))
      have hS3 := HS2.out.on hg2 hP2
      have HT3 : Hid (R = Gram.PR.ok (⟨(.mk f1 s1 nm1 tk1 tl1 n1 m1 ks1 a1), nx1, true, a1⟩ : Gram.Trans) (((k + 1) + 1) + 1)) := by show _ = _; rw [HT2.out, Gram.expect_yes e2]; rfl
      clear HT2 hN2 HS2 hP2 hg2
      clear z0 z1 z2 z3 z4 z5 z6 z7 z8 z9 z10 z11 zf
      have hgA := hS3.gr
      obtain ⟨y0, y1, y2, y3, y4, y5, y6, y7, y8, y9, y10, y11, yf⟩ := cells_12 (show x2.heap[(w2.heap.size + 1)]? = some (.cells #[.int .i64 f1, .int .i64 s1, .string ⟨nm1.toArray⟩, .int .i64 tk1, .int .i64 tl1, .int .i64 n1, .int .i64 m1, .slice ka kn kc, .int .i64 a1, .string ⟨nx1.toArray⟩, .bool true, .int .i64 a1] 222 (0, 0)) from hS3.row)
      have HSE := Lib.hid hS3
      clear hS3
      refine Lib.hid ?_
      go_wp2_with (with_reducible refine hold_st 2 ?_)
      refine Lib.hid ?_
      refine wpList_store_gen rfl _ _ _ rfl w.heap.size _ rfl rfl 222 _ ((hgA.block w.heap.size (by simp) (by simp; omega)).trans (heap_alloc_new w trn0)) (by kernel_rfl) rfl (by simp [Value.oneCell']) ?_
      intro w7 hh7 hg7
      go_wp2
      (try simp only [Exit.inBlock, Exit.then])
      refine bodyPost_ret (results_cell_row rfl _ _ w.heap.size 222 _ (0, 0) _ rfl hh7 Tryz.underlying222 rfl (by kernel_rfl)) rfl ?_
      have hG : w.grownBy w7 (some b) := ((grown_some (World.grownBy_alloc w trn0 none) b).trans hgA).andThen hg7 (fun j e => .inl (by cases e; exact Nat.le_refl _))
      obtain ⟨hkk, hss⟩ := HSE.out.ends hg7 (by simp) (by omega)
      rw [HT3.out]
      refine ⟨_, rfl, ?_, HH.out.to hG hss HSE.out.pa.lt, hG⟩
      simpa only [transD, expD, List.cons_append, List.nil_append] using hkk
  · have hA := fun wx (hx : Pa wx b g cap rv T k d) => gaccept_no b g cap rv T k d ⟨#[99, 111, 110, 116, 105, 110, 117, 101]⟩ wx hx hc
    have HT1 : Hid (R = (Gram.expect T k [116, 104, 101, 110]).bind fun _ j => (Gram.name T j).bind fun n j => (Gram.expect T j [59]).bind fun _ j => .ok (⟨(.mk f1 s1 nm1 tk1 tl1 n1 m1 ks1 a1), n, false, a1⟩ : Gram.Trans) j) := by show _ = _; rw [HT0.out, if_neg (by rw [hc]; decide), Gram.PR.bind_assoc]; rfl
    clear HT0
    refine Lib.hid ?_
    go_wp2
    refine wp_region_L (S := fun w' => w'.cell? ⟨w2.heap.size, 0, none⟩ = some (.int .i64 f1) ∧ w'.cell? ⟨w2.heap.size, 1, none⟩ = some (.int .i64 s1) ∧ w'.cell? ⟨w2.heap.size, 2, none⟩ = some (.string ⟨nm1.toArray⟩) ∧ w'.cell? ⟨w2.heap.size, 3, none⟩ = some (.int .i64 tk1) ∧ w'.cell? ⟨w2.heap.size, 4, none⟩ = some (.int .i64 tl1) ∧ w'.cell? ⟨w2.heap.size, 5, none⟩ = some (.int .i64 n1) ∧ w'.cell? ⟨w2.heap.size, 6, none⟩ = some (.int .i64 m1) ∧ w'.cell? ⟨w2.heap.size, 7, none⟩ = some (.slice ka kn kc) ∧ w'.cell? ⟨w2.heap.size, 8, none⟩ = some (.int .i64 a1)) (Z := [7]) (by kernel_rfl) ?_
    refine wpL_take (i := 0) (v := .agg #[.int .i64 f1, .int .i64 s1, .string ⟨nm1.toArray⟩, .int .i64 tk1, .int .i64 tl1, .int .i64 n1, .int .i64 m1, .slice ka kn kc, .int .i64 a1]) rfl (by kernel_rfl) (by kernel_rfl) (by kernel_rfl) (fun _ _ _ h => h) (by kernel_rfl) (.inl ⟨rfl, fun w' hw' => ?_⟩) hQ0 ?_
    · obtain ⟨q0, q1, q2, q3, q4, q5, q6, q7, q8⟩ := hw'
      go_simp
    refine wpL_take (i := 1) (v := .pointer (some ⟨w2.heap.size, 8, none⟩)) rfl (by kernel_rfl) (by kernel_rfl) (by kernel_rfl) (fun _ _ _ h => h) (by kernel_rfl) (.inl ⟨rfl, fun w' hw' => ?_⟩) hQ0 ?_
    · obtain ⟨q0, q1, q2, q3, q4, q5, q6, q7, q8⟩ := hw'
      go_simp
    refine wpL_take (i := 2) (v := .int .i64 a1) rfl (by kernel_rfl) (by kernel_rfl) (by kernel_rfl) (fun _ _ _ h => h) (by kernel_rfl) (.inl ⟨rfl, fun w' hw' => ?_⟩) hQ0 ?_
    · obtain ⟨q0, q1, q2, q3, q4, q5, q6, q7, q8⟩ := hw'
      go_simp
    refine wpL_take (i := 3) (v := .pointer (some ⟨b, 0, none⟩)) rfl (by kernel_rfl) (by kernel_rfl) (by kernel_rfl) (fun _ _ _ h => h) (by kernel_rfl) (.inl ⟨rfl, fun w' hw' => ?_⟩) hQ0 ?_
    · obtain ⟨q0, q1, q2, q3, q4, q5, q6, q7, q8⟩ := hw'
      go_simp
    refine wpL_two (i := 4) (j := 6) (by kernel_rfl) ?_ ?_
    · refine wpOp_step rfl (fun K' hK => ?_)
      split
      case isFalse hno => exact absurd rfl hno
      unfold Oper.wp
      go_simp
      refine (hA _ hPd).mono ?_
      rintro e w3 ⟨rfl, hg3'⟩
      have hP3 := hPd.kept hg3'
      have hg3 := grown_some hg3' b
      refine hK _ _ ⟨fun _ => hQk _ _ hQ0 hg3, ?_⟩
      clear hK K'
      refine wpL_take (i := 5) (v := .agg #[.int .i64 f1, .int .i64 s1, .string ⟨nm1.toArray⟩, .int .i64 tk1, .int .i64 tl1, .int .i64 n1, .int .i64 m1, .slice ka kn kc, .int .i64 a1, .string ⟨#[]⟩, .bool false, .int .i64 a1]) rfl (by kernel_rfl) (by kernel_rfl) (by kernel_rfl) (fun _ _ _ h => h) (by kernel_rfl) (.inl ⟨rfl, fun w' hw' => ?_⟩) (hQk _ _ hQ0 hg3) ?_
      · go_simp
      refine wpL_one (i := 6) (by kernel_rfl) ?_
      refine wpOp_step rfl (fun K' hK => ?_)
      split
      case isFalse hno => exact absurd rfl hno
      unfold Oper.wp
      go_simp
      refine hK _ _ ⟨fun _ => hQk _ _ (hQk _ _ hQ0 hg3) (World.grownBy_alloc w3 _ (some b)), ?_⟩
      clear hK K'
      have hs3 := hg3.size
      rw [hsD] at hs3
      obtain ⟨w4, hw4⟩ : ∃ W, W = w3.alloc trn0 := ⟨_, rfl⟩
      have hS0 : Ss (w.alloc trn0) w4 b g cap rv T w3.heap.size k d 222 [.c (.int .i64 0), .c (.int .i64 0), .c (.string ⟨#[]⟩), .c (.int .i64 0), .c (.int .i64 0), .c (.int .i64 0), .c (.int .i64 0), .l 28 9 [], .c (.int .i64 0), .c (.string ⟨#[]⟩), .c (.bool false), .c (.int .i64 0)] [.int .i64 0, .int .i64 0, .string ⟨#[]⟩, .int .i64 0, .int .i64 0, .int .i64 0, .int .i64 0, .slice none 0 0, .int .i64 0, .string ⟨#[]⟩, .bool false, .int .i64 0] := by
        rw [hw4]
        exact Ss.make ⟨i, HH.out.alloc trn0⟩ (hP3.alloc _) (galloc (hgD.trans hg3) _) (by simp; omega) (heap_alloc_new w3 _) (zrowT _ _)
      have hkk : KidsX w4 w1.heap.size [w3.heap.size] ks1 (.slice ka kn kc) := by
        rw [hw4]
        exact RepC.kept (World.grownBy_alloc w3 _ none) (fun k e => by cases e) (RepC.keptX (hg2D.trans hg3) (fun k e => by cases e; left; omega) (RepC.toX [w3.heap.size] (fun k e => .inl (by simp at e; omega)) HK2.out))
      rw [show w3.alloc (.cells #[.int .i64 0, .int .i64 0, .string ⟨#[]⟩, .int .i64 0, .int .i64 0, .int .i64 0, .int .i64 0, .slice none 0 0, .int .i64 0, .string ⟨#[]⟩, .bool false, .int .i64 0] 222) = w4 from hw4.symm]
      clear hw4
      have hth : w4.there w3.heap.size 0 12 := fun j hj => by
        refine ⟨?_, frozen_of_row w4 w3.heap.size _ _ _ hS0.row⟩
        rw [cell_of_row w4 w3.heap.size _ _ _ _ hS0.row]
        simp; omega
      refine wpL_one (i := 7) (by kernel_rfl) ?_
      refine wpOp_step rfl (fun K' hK => ?_)
      split
      case isFalse hno => exact absurd rfl hno
      refine wp_store_mid _ _ _ rfl w3.heap.size 0 #[.int .i64 f1, .int .i64 s1, .string ⟨nm1.toArray⟩, .int .i64 tk1, .int .i64 tl1, .int .i64 n1, .int .i64 m1, .slice ka kn kc, .int .i64 a1, .string ⟨#[]⟩, .bool false, .int .i64 a1] (by go_simp) (by go_simp) hth (by kernel_rfl) (by simp [Value.oneCell']) ?_
      have hre : RepRow w4 w1.heap.size [w3.heap.size] [.c (.int .i64 f1), .c (.int .i64 s1), .c (.string ⟨nm1.toArray⟩), .c (.int .i64 tk1), .c (.int .i64 tl1), .c (.int .i64 n1), .c (.int .i64 m1), .l 28 9 (expsD ks1), .c (.int .i64 a1), .c (.string ⟨#[]⟩), .c (.bool false), .c (.int .i64 a1)] [.int .i64 f1, .int .i64 s1, .string ⟨nm1.toArray⟩, .int .i64 tk1, .int .i64 tl1, .int .i64 n1, .int .i64 m1, .slice ka kn kc, .int .i64 a1, .string ⟨#[]⟩, .bool false, .int .i64 a1] := by
        have h9 := (exp_row (x := (.mk f1 s1 nm1 tk1 tl1 n1 m1 ks1 a1)) hkk).append (.cons (.c (.string ⟨#[]⟩)) (.cons (.c (.bool false)) (.cons (.c (.int .i64 a1)) .nil)))
        simpa only [expD, expCells, List.cons_append, List.nil_append] using h9
      have hS1' := hS0.all12 (B' := w1.heap.size) (by simp; omega) hre
      obtain ⟨W5, hWW⟩ : ∃ W, W = w4.setCells w3.heap.size 0 [.int .i64 f1, .int .i64 s1, .string ⟨nm1.toArray⟩, .int .i64 tk1, .int .i64 tl1, .int .i64 n1, .int .i64 m1, .slice ka kn kc, .int .i64 a1, .string ⟨#[]⟩, .bool false, .int .i64 a1] := ⟨_, rfl⟩
      rw [← hWW] at hS1'
      rw [show w4.setCells w3.heap.size 0 (Array.toList #[.int .i64 f1, .int .i64 s1, .string ⟨nm1.toArray⟩, .int .i64 tk1, .int .i64 tl1, .int .i64 n1, .int .i64 m1, .slice ka kn kc, .int .i64 a1, .string ⟨#[]⟩, .bool false, .int .i64 a1]) = W5 from hWW.symm]
      have hS1 := hS1'
      clear hWW hre hth hS0 hS1' hkk
      refine hK _ _ ⟨fun hno => absurd (by simp) hno, ?_⟩
      clear hK K'
      refine wpL_done (by kernel_rfl) ?_ _
      refine Hid.out ?_
      obtain ⟨z0, z1, z2, z3, z4, z5, z6, z7, z8, z9, z10, z11, zf⟩ := cells_12 (show W5.heap[w3.heap.size]? = some (.cells #[.int .i64 f1, .int .i64 s1, .string ⟨nm1.toArray⟩, .int .i64 tk1, .int .i64 tl1, .int .i64 n1, .int .i64 m1, .slice ka kn kc, .int .i64 a1, .string ⟨#[]⟩, .bool false, .int .i64 a1] 222 (0, 0)) from hS1.row)
      rcases Bool.eq_false_or_eq_true (Gram.sees T k [116, 104, 101, 110]) with e1 | e1
      case inr =>
        have hN := gexpect_no b g cap rv T k d ⟨#[116, 104, 101, 110]⟩ _ hS1.pa e1
        have hg9 := hS1.gr
        refine Lib.hid ?_
        go_wp2_with (first | (go_at_call 77; refine hN.mono ?_; rintro e w9 ⟨rfl, hgz⟩))
        refine ⟨rfl, ?_⟩
        rw [HT1.out, Gram.expect_no e1]
        exact ⟨rfl, (grown_some (World.grownBy_alloc w trn0 none) b).trans (hg9.trans hgz)⟩
      have hN1 := gexpect_yes b g cap rv T k d ⟨#[116, 104, 101, 110]⟩ _ hS1.pa e1 (hS1.pa.nextSees e1 (by decide))
      have HS1 := Lib.hid hS1
      clear hS1
      refine Lib.hid ?_
      go_wp2_with (first | (go_at_call 77; refine hN1.mono ?_; rintro e x1 ⟨rfl, hP1, hg1⟩; refine Hid.out ?_))
      have hS2 := HS1.out.on hg1 hP1
      have HT2 : Hid (R = (Gram.name T (k + 1)).bind fun n j => (Gram.expect T j [59]).bind fun _ j => .ok (⟨(.mk f1 s1 nm1 tk1 tl1 n1 m1 ks1 a1), n, false, a1⟩ : Gram.Trans) j) := by show _ = _; rw [HT1.out, Gram.expect_yes e1]; rfl
      clear HT1 hN1 HS1 hP1 hg1
      clear z0 z1 z2 z3 z4 z5 z6 z7 z8 z9 z10 z11 zf
      rcases Bool.eq_false_or_eq_true (Gram.isName T (k + 1)) with e2 | e2
      case inr =>
        have hN := gname_no b g cap rv T (k + 1) d _ hS2.pa e2
        have hg9 := hS2.gr
        refine Lib.hid ?_
        go_wp2_with (first | (go_at_call 78; refine hN.mono ?_; rintro e w9 ⟨rfl, hgz⟩))
        refine ⟨rfl, ?_⟩
        rw [HT2.out]
        unfold Gram.name Gram.need Gram.fail
        rw [if_neg (by rw [e2]; decide)]
        exact ⟨rfl, (grown_some (World.grownBy_alloc w trn0 none) b).trans (hg9.trans hgz)⟩
      have hN2 := gname_yes b g cap rv T (k + 1) d _ hS2.pa e2
      have HS2 := Lib.hid hS2
      clear hS2
      have HT3 : Hid (R = (Gram.expect T ((k + 1) + 1) [59]).bind fun _ j => .ok (⟨(.mk f1 s1 nm1 tk1 tl1 n1 m1 ks1 a1), (Gram.tk T (k + 1)).text, false, a1⟩ : Gram.Trans) j) := by show _ = _; rw [HT2.out]; unfold Gram.name Gram.need; rw [if_pos e2]; rfl
      clear HT2
      generalize (Gram.tk T (k + 1)).text = nx2 at hN2 HT3
      refine Lib.hid ?_
      go_wp2_with (first | (go_at_call 78; refine hN2.mono ?_; rintro e x2 ⟨rfl, hP2, hg2⟩; refine Hid.out ?_))
      have hSa := HS2.out.on hg2 hP2
      obtain ⟨z0, z1, z2, z3, z4, z5, z6, z7, z8, z9, z10, z11, zf⟩ := cells_12 (show x2.heap[w3.heap.size]? = some (.cells #[.int .i64 f1, .int .i64 s1, .string ⟨nm1.toArray⟩, .int .i64 tk1, .int .i64 tl1, .int .i64 n1, .int .i64 m1, .slice ka kn kc, .int .i64 a1, .string ⟨#[]⟩, .bool false, .int .i64 a1] 222 (0, 0)) from hSa.row)
      have hS3 : Ss (w.alloc trn0) (x2.setCell ⟨w3.heap.size, 9, none⟩ (.string ⟨nx2.toArray⟩)) b g cap rv T w3.heap.size ((k + 1) + 1) d 222 [.c (.int .i64 f1), .c (.int .i64 s1), .c (.string ⟨nm1.toArray⟩), .c (.int .i64 tk1), .c (.int .i64 tl1), .c (.int .i64 n1), .c (.int .i64 m1), .l 28 9 (expsD ks1), .c (.int .i64 a1), .c (.string ⟨nx2.toArray⟩), .c (.bool false), .c (.int .i64 a1)] [.int .i64 f1, .int .i64 s1, .string ⟨nm1.toArray⟩, .int .i64 tk1, .int .i64 tl1, .int .i64 n1, .int .i64 m1, .slice ka kn kc, .int .i64 a1, .string ⟨nx2.toArray⟩, .bool false, .int .i64 a1] := hSa.set 9 (.c _)
      clear hSa hN2 hP2 hg2 HS2
      rcases Bool.eq_false_or_eq_true (Gram.sees T ((k + 1) + 1) [59]) with e3 | e3
      case inr =>
        have hN := gexpect_no b g cap rv T ((k + 1) + 1) d ⟨#[59]⟩ _ hS3.pa e3
        have hg9 := hS3.gr
        refine Lib.hid ?_
        go_wp2_with (first | (go_at_call 77; refine hN.mono ?_; rintro e w9 ⟨rfl, hgz⟩))
        refine ⟨rfl, ?_⟩
        rw [HT3.out, Gram.expect_no e3]
        exact ⟨rfl, (grown_some (World.grownBy_alloc w trn0 none) b).trans (hg9.trans hgz)⟩
      have hN3 := gexpect_yes b g cap rv T ((k + 1) + 1) d ⟨#[59]⟩ _ hS3.pa e3 (hS3.pa.nextSees e3 (by decide))
      have HS3 := Lib.hid hS3
      clear hS3
      refine Lib.hid ?_
      go_wp2_with (first | (go_at_call 77; refine hN3.mono ?_; rintro e x3 ⟨rfl, hP3, hg3⟩; refine Hid.out ?_))
      have hS4 := HS3.out.on hg3 hP3
      have HT4 : Hid (R = Gram.PR.ok (⟨(.mk f1 s1 nm1 tk1 tl1 n1 m1 ks1 a1), nx2, false, a1⟩ : Gram.Trans) (((k + 1) + 1) + 1)) := by show _ = _; rw [HT3.out, Gram.expect_yes e3]; rfl
      clear HT3 hN3 HS3 hP3 hg3
      clear z0 z1 z2 z3 z4 z5 z6 z7 z8 z9 z10 z11 zf
      have hgA := hS4.gr
      obtain ⟨y0, y1, y2, y3, y4, y5, y6, y7, y8, y9, y10, y11, yf⟩ := cells_12 (show x3.heap[w3.heap.size]? = some (.cells #[.int .i64 f1, .int .i64 s1, .string ⟨nm1.toArray⟩, .int .i64 tk1, .int .i64 tl1, .int .i64 n1, .int .i64 m1, .slice ka kn kc, .int .i64 a1, .string ⟨nx2.toArray⟩, .bool false, .int .i64 a1] 222 (0, 0)) from hS4.row)
      have HSE := Lib.hid hS4
      clear hS4
      refine Lib.hid ?_
      go_wp2_with (with_reducible refine hold_st 2 ?_)
      refine Lib.hid ?_
      refine wpList_store_gen rfl _ _ _ rfl w.heap.size _ rfl rfl 222 _ ((hgA.block w.heap.size (by simp) (by simp; omega)).trans (heap_alloc_new w trn0)) (by kernel_rfl) rfl (by simp [Value.oneCell']) ?_
      intro w7 hh7 hg7
      go_wp2
      (try simp only [Exit.inBlock, Exit.then])
      refine bodyPost_ret (results_cell_row rfl _ _ w.heap.size 222 _ (0, 0) _ rfl hh7 Tryz.underlying222 rfl (by kernel_rfl)) rfl ?_
      have hG : w.grownBy w7 (some b) := ((grown_some (World.grownBy_alloc w trn0 none) b).trans hgA).andThen hg7 (fun j e => .inl (by cases e; exact Nat.le_refl _))
      obtain ⟨hkk, hss⟩ := HSE.out.ends hg7 (by simp) (by omega)
      rw [HT4.out]
      refine ⟨_, rfl, ?_, HH.out.to hG hss HSE.out.pa.lt, hG⟩
      simpa only [transD, expD, List.cons_append, List.nil_append] using hkk
    · refine wpOp_step rfl (fun K' hK => ?_)
      split
      case isFalse hno => exact absurd rfl hno
      unfold Oper.wp
      go_simp
      refine hK _ _ ⟨fun _ => hQk _ _ hQ0 (World.grownBy_alloc (w2.alloc (.cells #[.int .i64 f1, .int .i64 s1, .string ⟨nm1.toArray⟩, .int .i64 tk1, .int .i64 tl1, .int .i64 n1, .int .i64 m1, .slice ka kn kc, .int .i64 a1] 28)).drew _ (some b)), ?_⟩
      clear hK K'
      obtain ⟨w3, hw3⟩ : ∃ W, W = (w2.alloc (.cells #[.int .i64 f1, .int .i64 s1, .string ⟨nm1.toArray⟩, .int .i64 tk1, .int .i64 tl1, .int .i64 n1, .int .i64 m1, .slice ka kn kc, .int .i64 a1] 28)).drew.alloc trn0 := ⟨_, rfl⟩
      have hga : (w2.alloc (.cells #[.int .i64 f1, .int .i64 s1, .string ⟨nm1.toArray⟩, .int .i64 tk1, .int .i64 tl1, .int .i64 n1, .int .i64 m1, .slice ka kn kc, .int .i64 a1] 28)).drew.grownBy w3 none := by rw [hw3]; exact World.grownBy_alloc _ _ _
      have hq3 : w3.heap[w2.heap.size + 1]? = some trn0 := by
        have e := heap_alloc_new (w2.alloc (.cells #[.int .i64 f1, .int .i64 s1, .string ⟨nm1.toArray⟩, .int .i64 tk1, .int .i64 tl1, .int .i64 n1, .int .i64 m1, .slice ka kn kc, .int .i64 a1] 28)).drew trn0
        rw [hsD] at e
        rw [hw3]; exact e
      have hs3 : w3.heap.size = w2.heap.size + 1 + 1 := by rw [hw3, World.size_alloc, hsD]
      have hP3 : Pa w3 b g cap rv T k d := hPd.kept hga
      refine wpL_one (i := 4) (by kernel_rfl) ?_
      refine wpOp_step rfl (fun K' hK => ?_)
      split
      case isFalse hno => exact absurd rfl hno
      unfold Oper.wp
      go_simp
      rw [show (((w2.alloc (.cells #[.int .i64 f1, .int .i64 s1, .string ⟨nm1.toArray⟩, .int .i64 tk1, .int .i64 tl1, .int .i64 n1, .int .i64 m1, .slice ka kn kc, .int .i64 a1] 28)).alloc (.cells #[.int .i64 0, .int .i64 0, .string ⟨#[]⟩, .int .i64 0, .int .i64 0, .int .i64 0, .int .i64 0, .slice none 0 0, .int .i64 0, .string ⟨#[]⟩, .bool false, .int .i64 0] 222)).drew : World) = w3 from hw3.symm]
      refine (hA _ hP3).mono ?_
      rintro e w4 ⟨rfl, hg4'⟩
      have hP4 := hP3.kept hg4'
      have hg4 := grown_some hg4' b
      clear hw3
      refine hK _ _ ⟨fun _ => hQk _ _ (hQk _ _ hQ0 (grown_some hga b)) hg4, ?_⟩
      clear hK K'
      refine wpL_take (i := 5) (v := .agg #[.int .i64 f1, .int .i64 s1, .string ⟨nm1.toArray⟩, .int .i64 tk1, .int .i64 tl1, .int .i64 n1, .int .i64 m1, .slice ka kn kc, .int .i64 a1, .string ⟨#[]⟩, .bool false, .int .i64 a1]) rfl (by kernel_rfl) (by kernel_rfl) (by kernel_rfl) (fun _ _ _ h => h) (by kernel_rfl) (.inl ⟨rfl, fun w' hw' => ?_⟩) (hQk _ _ (hQk _ _ hQ0 (grown_some hga b)) hg4) ?_
      · go_simp
      have hS0 : Ss (w.alloc trn0) w4 b g cap rv T (w2.heap.size + 1) k d 222 [.c (.int .i64 0), .c (.int .i64 0), .c (.string ⟨#[]⟩), .c (.int .i64 0), .c (.int .i64 0), .c (.int .i64 0), .c (.int .i64 0), .l 28 9 [], .c (.int .i64 0), .c (.string ⟨#[]⟩), .c (.bool false), .c (.int .i64 0)] [.int .i64 0, .int .i64 0, .string ⟨#[]⟩, .int .i64 0, .int .i64 0, .int .i64 0, .int .i64 0, .slice none 0 0, .int .i64 0, .string ⟨#[]⟩, .bool false, .int .i64 0] :=
        Ss.make ⟨i, HH.out.alloc trn0⟩ hP4 ((hgD.trans (grown_some hga b)).trans hg4) (by simp; omega) ((hg4.block (w2.heap.size + 1) (by omega) (by simp; omega)).trans hq3) (zrowT _ _)
      have hkk : KidsX w4 w1.heap.size [w2.heap.size + 1] ks1 (.slice ka kn kc) :=
        RepC.keptX ((hg2D.trans (grown_some hga b)).trans hg4) (fun k e => by cases e; left; omega) (RepC.toX [w2.heap.size + 1] (fun k e => .inl (by simp at e; omega)) HK2.out)
      have hth : w4.there (w2.heap.size + 1) 0 12 := fun j hj => by
        refine ⟨?_, frozen_of_row w4 (w2.heap.size + 1) _ _ _ hS0.row⟩
        rw [cell_of_row w4 (w2.heap.size + 1) _ _ _ _ hS0.row]
        simp; omega
      refine wpL_one (i := 7) (by kernel_rfl) ?_
      refine wpOp_step rfl (fun K' hK => ?_)
      split
      case isFalse hno => exact absurd rfl hno
      refine wp_store_mid _ _ _ rfl (w2.heap.size + 1) 0 #[.int .i64 f1, .int .i64 s1, .string ⟨nm1.toArray⟩, .int .i64 tk1, .int .i64 tl1, .int .i64 n1, .int .i64 m1, .slice ka kn kc, .int .i64 a1, .string ⟨#[]⟩, .bool false, .int .i64 a1] (by go_simp) (by go_simp) hth (by kernel_rfl) (by simp [Value.oneCell']) ?_
      have hre : RepRow w4 w1.heap.size [(w2.heap.size + 1)] [.c (.int .i64 f1), .c (.int .i64 s1), .c (.string ⟨nm1.toArray⟩), .c (.int .i64 tk1), .c (.int .i64 tl1), .c (.int .i64 n1), .c (.int .i64 m1), .l 28 9 (expsD ks1), .c (.int .i64 a1), .c (.string ⟨#[]⟩), .c (.bool false), .c (.int .i64 a1)] [.int .i64 f1, .int .i64 s1, .string ⟨nm1.toArray⟩, .int .i64 tk1, .int .i64 tl1, .int .i64 n1, .int .i64 m1, .slice ka kn kc, .int .i64 a1, .string ⟨#[]⟩, .bool false, .int .i64 a1] := by
        have h9 := (exp_row (x := (.mk f1 s1 nm1 tk1 tl1 n1 m1 ks1 a1)) hkk).append (.cons (.c (.string ⟨#[]⟩)) (.cons (.c (.bool false)) (.cons (.c (.int .i64 a1)) .nil)))
        simpa only [expD, expCells, List.cons_append, List.nil_append] using h9
      have hS1' := hS0.all12 (B' := w1.heap.size) (by simp; omega) hre
      obtain ⟨W5, hWW⟩ : ∃ W, W = w4.setCells (w2.heap.size + 1) 0 [.int .i64 f1, .int .i64 s1, .string ⟨nm1.toArray⟩, .int .i64 tk1, .int .i64 tl1, .int .i64 n1, .int .i64 m1, .slice ka kn kc, .int .i64 a1, .string ⟨#[]⟩, .bool false, .int .i64 a1] := ⟨_, rfl⟩
      rw [← hWW] at hS1'
      rw [show w4.setCells (w2.heap.size + 1) 0 (Array.toList #[.int .i64 f1, .int .i64 s1, .string ⟨nm1.toArray⟩, .int .i64 tk1, .int .i64 tl1, .int .i64 n1, .int .i64 m1, .slice ka kn kc, .int .i64 a1, .string ⟨#[]⟩, .bool false, .int .i64 a1]) = W5 from hWW.symm]
      have hS1 := hS1'
      clear hWW hre hth hS0 hS1' hkk
      refine hK _ _ ⟨fun hno => absurd (by simp) hno, ?_⟩
      clear hK K'
      refine wpL_done (by kernel_rfl) ?_ _
      refine Hid.out ?_
      obtain ⟨z0, z1, z2, z3, z4, z5, z6, z7, z8, z9, z10, z11, zf⟩ := cells_12 (show W5.heap[(w2.heap.size + 1)]? = some (.cells #[.int .i64 f1, .int .i64 s1, .string ⟨nm1.toArray⟩, .int .i64 tk1, .int .i64 tl1, .int .i64 n1, .int .i64 m1, .slice ka kn kc, .int .i64 a1, .string ⟨#[]⟩, .bool false, .int .i64 a1] 222 (0, 0)) from hS1.row)
      rcases Bool.eq_false_or_eq_true (Gram.sees T k [116, 104, 101, 110]) with e1 | e1
      case inr =>
        have hN := gexpect_no b g cap rv T k d ⟨#[116, 104, 101, 110]⟩ _ hS1.pa e1
        have hg9 := hS1.gr
        refine Lib.hid ?_
        go_wp2_with (first | (go_at_call 77; refine hN.mono ?_; rintro e w9 ⟨rfl, hgz⟩))
        refine ⟨rfl, ?_⟩
        rw [HT1.out, Gram.expect_no e1]
        exact ⟨rfl, (grown_some (World.grownBy_alloc w trn0 none) b).trans (hg9.trans hgz)⟩
      have hN1 := gexpect_yes b g cap rv T k d ⟨#[116, 104, 101, 110]⟩ _ hS1.pa e1 (hS1.pa.nextSees e1 (by decide))
      have HS1 := Lib.hid hS1
      clear hS1
      refine Lib.hid ?_
      go_wp2_with (first | (go_at_call 77; refine hN1.mono ?_; rintro e x1 ⟨rfl, hP1, hg1⟩; refine Hid.out ?_))
      have hS2 := HS1.out.on hg1 hP1
      have HT2 : Hid (R = (Gram.name T (k + 1)).bind fun n j => (Gram.expect T j [59]).bind fun _ j => .ok (⟨(.mk f1 s1 nm1 tk1 tl1 n1 m1 ks1 a1), n, false, a1⟩ : Gram.Trans) j) := by show _ = _; rw [HT1.out, Gram.expect_yes e1]; rfl
      clear HT1 hN1 HS1 hP1 hg1
      clear z0 z1 z2 z3 z4 z5 z6 z7 z8 z9 z10 z11 zf
      rcases Bool.eq_false_or_eq_true (Gram.isName T (k + 1)) with e2 | e2
      case inr =>
        have hN := gname_no b g cap rv T (k + 1) d _ hS2.pa e2
        have hg9 := hS2.gr
        refine Lib.hid ?_
        go_wp2_with (first | (go_at_call 78; refine hN.mono ?_; rintro e w9 ⟨rfl, hgz⟩))
        refine ⟨rfl, ?_⟩
        rw [HT2.out]
        unfold Gram.name Gram.need Gram.fail
        rw [if_neg (by rw [e2]; decide)]
        exact ⟨rfl, (grown_some (World.grownBy_alloc w trn0 none) b).trans (hg9.trans hgz)⟩
      have hN2 := gname_yes b g cap rv T (k + 1) d _ hS2.pa e2
      have HS2 := Lib.hid hS2
      clear hS2
      have HT3 : Hid (R = (Gram.expect T ((k + 1) + 1) [59]).bind fun _ j => .ok (⟨(.mk f1 s1 nm1 tk1 tl1 n1 m1 ks1 a1), (Gram.tk T (k + 1)).text, false, a1⟩ : Gram.Trans) j) := by show _ = _; rw [HT2.out]; unfold Gram.name Gram.need; rw [if_pos e2]; rfl
      clear HT2
      generalize (Gram.tk T (k + 1)).text = nx2 at hN2 HT3
      refine Lib.hid ?_
      go_wp2_with (first | (go_at_call 78; refine hN2.mono ?_; rintro e x2 ⟨rfl, hP2, hg2⟩; refine Hid.out ?_))
      have hSa := HS2.out.on hg2 hP2
      obtain ⟨z0, z1, z2, z3, z4, z5, z6, z7, z8, z9, z10, z11, zf⟩ := cells_12 (show x2.heap[(w2.heap.size + 1)]? = some (.cells #[.int .i64 f1, .int .i64 s1, .string ⟨nm1.toArray⟩, .int .i64 tk1, .int .i64 tl1, .int .i64 n1, .int .i64 m1, .slice ka kn kc, .int .i64 a1, .string ⟨#[]⟩, .bool false, .int .i64 a1] 222 (0, 0)) from hSa.row)
      have hS3 : Ss (w.alloc trn0) (x2.setCell ⟨(w2.heap.size + 1), 9, none⟩ (.string ⟨nx2.toArray⟩)) b g cap rv T (w2.heap.size + 1) ((k + 1) + 1) d 222 [.c (.int .i64 f1), .c (.int .i64 s1), .c (.string ⟨nm1.toArray⟩), .c (.int .i64 tk1), .c (.int .i64 tl1), .c (.int .i64 n1), .c (.int .i64 m1), .l 28 9 (expsD ks1), .c (.int .i64 a1), .c (.string ⟨nx2.toArray⟩), .c (.bool false), .c (.int .i64 a1)] [.int .i64 f1, .int .i64 s1, .string ⟨nm1.toArray⟩, .int .i64 tk1, .int .i64 tl1, .int .i64 n1, .int .i64 m1, .slice ka kn kc, .int .i64 a1, .string ⟨nx2.toArray⟩, .bool false, .int .i64 a1] := hSa.set 9 (.c _)
      clear hSa hN2 hP2 hg2 HS2
      rcases Bool.eq_false_or_eq_true (Gram.sees T ((k + 1) + 1) [59]) with e3 | e3
      case inr =>
        have hN := gexpect_no b g cap rv T ((k + 1) + 1) d ⟨#[59]⟩ _ hS3.pa e3
        have hg9 := hS3.gr
        refine Lib.hid ?_
        go_wp2_with (first | (go_at_call 77; refine hN.mono ?_; rintro e w9 ⟨rfl, hgz⟩))
        refine ⟨rfl, ?_⟩
        rw [HT3.out, Gram.expect_no e3]
        exact ⟨rfl, (grown_some (World.grownBy_alloc w trn0 none) b).trans (hg9.trans hgz)⟩
      have hN3 := gexpect_yes b g cap rv T ((k + 1) + 1) d ⟨#[59]⟩ _ hS3.pa e3 (hS3.pa.nextSees e3 (by decide))
      have HS3 := Lib.hid hS3
      clear hS3
      refine Lib.hid ?_
      go_wp2_with (first | (go_at_call 77; refine hN3.mono ?_; rintro e x3 ⟨rfl, hP3, hg3⟩; refine Hid.out ?_))
      have hS4 := HS3.out.on hg3 hP3
      have HT4 : Hid (R = Gram.PR.ok (⟨(.mk f1 s1 nm1 tk1 tl1 n1 m1 ks1 a1), nx2, false, a1⟩ : Gram.Trans) (((k + 1) + 1) + 1)) := by show _ = _; rw [HT3.out, Gram.expect_yes e3]; rfl
      clear HT3 hN3 HS3 hP3 hg3
      clear z0 z1 z2 z3 z4 z5 z6 z7 z8 z9 z10 z11 zf
      have hgA := hS4.gr
      obtain ⟨y0, y1, y2, y3, y4, y5, y6, y7, y8, y9, y10, y11, yf⟩ := cells_12 (show x3.heap[(w2.heap.size + 1)]? = some (.cells #[.int .i64 f1, .int .i64 s1, .string ⟨nm1.toArray⟩, .int .i64 tk1, .int .i64 tl1, .int .i64 n1, .int .i64 m1, .slice ka kn kc, .int .i64 a1, .string ⟨nx2.toArray⟩, .bool false, .int .i64 a1] 222 (0, 0)) from hS4.row)
      have HSE := Lib.hid hS4
      clear hS4
      refine Lib.hid ?_
      go_wp2_with (with_reducible refine hold_st 2 ?_)
      refine Lib.hid ?_
      refine wpList_store_gen rfl _ _ _ rfl w.heap.size _ rfl rfl 222 _ ((hgA.block w.heap.size (by simp) (by simp; omega)).trans (heap_alloc_new w trn0)) (by kernel_rfl) rfl (by simp [Value.oneCell']) ?_
      intro w7 hh7 hg7
      go_wp2
      (try simp only [Exit.inBlock, Exit.then])
      refine bodyPost_ret (results_cell_row rfl _ _ w.heap.size 222 _ (0, 0) _ rfl hh7 Tryz.underlying222 rfl (by kernel_rfl)) rfl ?_
      have hG : w.grownBy w7 (some b) := ((grown_some (World.grownBy_alloc w trn0 none) b).trans hgA).andThen hg7 (fun j e => .inl (by cases e; exact Nat.le_refl _))
      obtain ⟨hkk, hss⟩ := HSE.out.ends hg7 (by simp) (by omega)
      rw [HT4.out]
      refine ⟨_, rfl, ?_, HH.out.to hG hss HSE.out.pa.lt, hG⟩
      simpa only [transD, expD, List.cons_append, List.nil_append] using hkk
end

end Go.Proofs.YtachmiajldeakaaGreatDoor

/- gram's state (made by mkseq2.py). -/
namespace Go.Proofs.YtachmiajldeakaaGreatDoor
open Go.RowKit Go.Maps Go.WideMaps

namespace Gram
theorem need_bind {α β : Type} (T : List Lex.Tk) (i : Nat) (b : Bool) (r : PR α) (f : α → Nat → PR β) : need T i b (r.bind f) = (need T i b r).bind f := by unfold need fail; split <;> rfl
end Gram
def sta0 : Obj := .cells #[.string ⟨#[]⟩, .slice none 0 0, .slice none 0 0, .slice none 0 0, .slice none 0 0, .int .i64 0] 182

section
variable (b g cap : Nat) (rv : Value) (T : List Lex.Tk) (d : Nat)

set_option maxHeartbeats 6400000 in
set_option maxRecDepth 20000 in
theorem gstate_step (f i : Nat) (hC : ∀ f', f' < f → ∀ (i : Nat) (w : World), Pa w b g cap rv T i d → (Gram.seesItem T i) = true → (Gram.item T f' d i).isFuel = false → Calls Tryz.prog 127 #[.pointer (some ⟨b, 0, none⟩)] w fun e w' => rPost itemD w b g cap rv T d (Gram.item T f' d i) e w') (w : World) (h : Pa w b g cap rv T i d) (hs : Gram.sees T i [115, 116, 97, 116, 101] = true) (hf : (Gram.state T (f + 1) d i).isFuel = false) :
    Calls Tryz.prog 186 #[.pointer (some ⟨b, 0, none⟩)] w fun e w' => rPost stateD w b g cap rv T d (Gram.state T (f + 1) d i) e w' := by
  have hbw := h.bl
  have hP0 := h.alloc sta0
  obtain ⟨R, hR⟩ : ∃ R, R = Gram.state T (f + 1) d i := ⟨_, rfl⟩
  rw [← hR] at hf ⊢
  unfold Gram.state at hR
  have hX := gexpect_yes b g cap rv T i d ⟨#[115, 116, 97, 116, 101]⟩ _ hP0 hs (hP0.nextSees hs (by decide))
  generalize Gram.tk T i = x at hX hR
  simp only [Gram.need_bind] at hR
  have HR := Lib.hid hR
  clear hR
  have hfa := fldAt x
  have hmf := makeFunc_run
  have HH := Lib.hid h
  clear h
  go_enter Tryz.func186, Tryz.ntmps186
  go_wp2_with (first | (go_at_call 77; refine hX.mono ?_; rintro e w1 ⟨rfl, hP1, hg1⟩; refine Hid.out ?_))
  have hs1 := hg1.size
  rw [World.size_alloc] at hs1
  clear hX
  rcases Bool.eq_false_or_eq_true (Gram.isName T (i + 1)) with e0 | e0
  case inr =>
    have hN := gname_no b g cap rv T (i + 1) d _ hP1 e0
    refine Lib.hid ?_
    go_wp2_with (first | (go_at_call 78; refine hN.mono ?_; rintro e w9 ⟨rfl, hgz⟩))
    refine ⟨rfl, ?_⟩
    rw [HR.out]
    unfold Gram.name Gram.need Gram.fail
    rw [if_neg (by rw [e0]; decide)]
    exact ⟨rfl, (grown_some (World.grownBy_alloc w sta0 none) b).trans (hg1.trans hgz)⟩
  have hN := gname_yes b g cap rv T (i + 1) d _ hP1 e0
  have hR1 : R = (Gram.transs T [117, 110, 108, 101, 115, 115] d f [] (i + 1 + 1)).bind fun us j => (Gram.locals T f j).bind fun ls j => (Gram.expect T j [100, 111]).bind fun _ j => (Gram.need T j (Gram.seesItem T j) (Gram.items T f d [] j)).bind fun its j => (Gram.transs T [117, 110, 116, 105, 108] d f [] j).bind fun ut j => .ok (Gram.State.mk (Gram.tk T (i + 1)).text us ut ls its x.at_) j := by
    rw [HR.out]
    have e : Gram.name T (i + 1) = .ok (Gram.tk T (i + 1)).text (i + 1 + 1) := by unfold Gram.name Gram.need; rw [if_pos e0]
    rw [e, Gram.PR.ok_bind]
  have HT1 := Lib.hid hR1
  clear HR hR1
  generalize (Gram.tk T (i + 1)).text = nx at hN HT1
  refine Lib.hid ?_
  go_wp2_with (first | (go_at_call 78; refine hN.mono ?_; rintro e w2 ⟨rfl, hP2, hg2⟩; refine Hid.out ?_))
  have hs2 := hg2.size
  have hS1 : Ss (w.alloc sta0) (w2.alloc (.cells #[.string ⟨nx.toArray⟩, .slice none 0 0, .slice none 0 0, .slice none 0 0, .slice none 0 0, .int .i64 (x.at_ : Int)] 182)) b g cap rv T w2.heap.size (i + 1 + 1) d 182 [.c (.string ⟨nx.toArray⟩), .l 222 12 [], .l 222 12 [], .l 139 5 [], .l 41 12 [], .c (.int .i64 (x.at_ : Int))] [.string ⟨nx.toArray⟩, .slice none 0 0, .slice none 0 0, .slice none 0 0, .slice none 0 0, .int .i64 (x.at_ : Int)] :=
    Ss.make ⟨i, hP0⟩ (hP2.alloc _) (galloc (hg1.trans hg2) _) (by simp; omega) (heap_alloc_new w2 _) (.cons (.c _) (.cons (RepC.nil _ _ _ _ _) (.cons (RepC.nil _ _ _ _ _) (.cons (RepC.nil _ _ _ _ _) (.cons (RepC.nil _ _ _ _ _) (.cons (.c _) .nil))))))
  clear hN
  have hLf1 : (Gram.transs T [117, 110, 108, 101, 115, 115] d f [] (i + 1 + 1)).isFuel = false := by rw [HT1.out] at hf; exact Gram.PR.bind_fuel hf
  have hL1 := gmany_unless b g cap rv T d f (fun f' _ i w hp hs hf => gtrans_any b g cap rv T d f' i [117, 110, 108, 101, 115, 115] (by decide) w hp hs hf) (i + 1 + 1) _ hS1.pa hLf1
  have HS1 := Lib.hid hS1
  clear hS1
  cases hr1 : Gram.transs T [117, 110, 108, 101, 115, 115] d f [] (i + 1 + 1) with
  | fuel => rw [hr1] at hLf1; cases hLf1
  | bad a er =>
    rw [hr1] at hL1
    simp only [lPost] at hL1
    refine Lib.hid ?_
    go_wp2_with (first | (go_at_call 204; refine hL1.mono ?_; rintro e w9 ⟨rfl, hgz⟩))
    refine ⟨rfl, ?_⟩
    rw [HT1.out, hr1]
    exact ⟨rfl, (grown_some (World.grownBy_alloc w sta0 none) b).trans (HS1.out.gr.trans hgz)⟩
  | ok l1 j1 =>
  rw [hr1] at hL1
  simp only [lPost] at hL1
  have HT2 : Hid (R = (Gram.locals T f j1).bind fun ls j => (Gram.expect T j [100, 111]).bind fun _ j => (Gram.need T j (Gram.seesItem T j) (Gram.items T f d [] j)).bind fun its j => (Gram.transs T [117, 110, 116, 105, 108] d f [] j).bind fun ut j => .ok (Gram.State.mk nx l1 ut ls its x.at_) j) := by show _ = _; rw [HT1.out, hr1]; rfl
  clear HT1 hr1 hLf1
  refine Lib.hid ?_
  go_wp2_with (first | (go_at_call 204; refine hL1.mono ?_; rintro e x1 ⟨v1, rfl, hk1, hP1, hg1⟩; obtain ⟨pa1, pn1, pc1, rfl⟩ := hk1.form; refine Hid.out ?_))
  have hSa := HS1.out.on hg1 hP1
  have hql1 := HS1.out.ql
  obtain ⟨z0, z1, z2, z3, z4, z5, zf⟩ := cells_6 (show x1.heap[w2.heap.size]? = some (.cells #[.string ⟨nx.toArray⟩, .slice none 0 0, .slice none 0 0, .slice none 0 0, .slice none 0 0, .int .i64 (x.at_ : Int)] 182 (0, 0)) from hSa.row)
  have hS2 : Ss (w.alloc sta0) (x1.setCell ⟨w2.heap.size, 1, none⟩ (.slice pa1 pn1 pc1)) b g cap rv T w2.heap.size j1 d 182 [.c (.string ⟨nx.toArray⟩), .l 222 12 (l1.map transD), .l 222 12 [], .l 139 5 [], .l 41 12 [], .c (.int .i64 (x.at_ : Int))] [.string ⟨nx.toArray⟩, .slice pa1 pn1 pc1, .slice none 0 0, .slice none 0 0, .slice none 0 0, .int .i64 (x.at_ : Int)] := hSa.set 1 (hk1.mono (Nat.succ_le_of_lt hql1)).rep
  clear hSa hL1 hk1 hP1 hg1 HS1
  have hLf2 : (Gram.locals T f j1).isFuel = false := by rw [HT2.out] at hf; exact Gram.PR.bind_fuel hf
  have hL2 := glocals_any b g cap rv T d f j1 _ hS2.pa hLf2
  have HS2 := Lib.hid hS2
  clear hS2
  cases hr2 : Gram.locals T f j1 with
  | fuel => rw [hr2] at hLf2; cases hLf2
  | bad a er =>
    rw [hr2] at hL2
    simp only [lPost] at hL2
    refine Lib.hid ?_
    go_wp2_with (first | (go_at_call 80; refine hL2.mono ?_; rintro e w9 ⟨rfl, hgz⟩))
    refine ⟨rfl, ?_⟩
    rw [HT2.out, hr2]
    exact ⟨rfl, (grown_some (World.grownBy_alloc w sta0 none) b).trans (HS2.out.gr.trans hgz)⟩
  | ok l2 j2 =>
  rw [hr2] at hL2
  simp only [lPost] at hL2
  have HT3 : Hid (R = (Gram.expect T j2 [100, 111]).bind fun _ j => (Gram.need T j (Gram.seesItem T j) (Gram.items T f d [] j)).bind fun its j => (Gram.transs T [117, 110, 116, 105, 108] d f [] j).bind fun ut j => .ok (Gram.State.mk nx l1 ut l2 its x.at_) j) := by show _ = _; rw [HT2.out, hr2]; rfl
  clear HT2 hr2 hLf2
  refine Lib.hid ?_
  go_wp2_with (first | (go_at_call 80; refine hL2.mono ?_; rintro e x2 ⟨v2, rfl, hk2, hP2, hg2⟩; obtain ⟨pa2, pn2, pc2, rfl⟩ := hk2.form; refine Hid.out ?_))
  clear z0 z1 z2 z3 z4 z5 zf
  have hSa := HS2.out.on hg2 hP2
  have hql2 := HS2.out.ql
  obtain ⟨z0, z1, z2, z3, z4, z5, zf⟩ := cells_6 (show x2.heap[w2.heap.size]? = some (.cells #[.string ⟨nx.toArray⟩, .slice pa1 pn1 pc1, .slice none 0 0, .slice none 0 0, .slice none 0 0, .int .i64 (x.at_ : Int)] 182 (0, 0)) from hSa.row)
  have hS3 : Ss (w.alloc sta0) (x2.setCell ⟨w2.heap.size, 3, none⟩ (.slice pa2 pn2 pc2)) b g cap rv T w2.heap.size j2 d 182 [.c (.string ⟨nx.toArray⟩), .l 222 12 (l1.map transD), .l 222 12 [], .l 139 5 (l2.map varD), .l 41 12 [], .c (.int .i64 (x.at_ : Int))] [.string ⟨nx.toArray⟩, .slice pa1 pn1 pc1, .slice none 0 0, .slice pa2 pn2 pc2, .slice none 0 0, .int .i64 (x.at_ : Int)] := hSa.set 3 (hk2.mono (Nat.succ_le_of_lt hql2)).rep
  clear hSa hL2 hk2 hP2 hg2 HS2
  rcases Bool.eq_false_or_eq_true (Gram.sees T j2 [100, 111]) with e3 | e3
  case inr =>
    have hN := gexpect_no b g cap rv T j2 d ⟨#[100, 111]⟩ _ hS3.pa e3
    have hg9 := hS3.gr
    refine Lib.hid ?_
    go_wp2_with (first | (go_at_call 77; refine hN.mono ?_; rintro e w9 ⟨rfl, hgz⟩))
    refine ⟨rfl, ?_⟩
    rw [HT3.out, Gram.expect_no e3]
    exact ⟨rfl, (grown_some (World.grownBy_alloc w sta0 none) b).trans (hg9.trans hgz)⟩
  have hN3 := gexpect_yes b g cap rv T j2 d ⟨#[100, 111]⟩ _ hS3.pa e3 (hS3.pa.nextSees e3 (by decide))
  have HS3 := Lib.hid hS3
  clear hS3
  refine Lib.hid ?_
  go_wp2_with (first | (go_at_call 77; refine hN3.mono ?_; rintro e x3 ⟨rfl, hP3, hg3⟩; refine Hid.out ?_))
  have hS4 := HS3.out.on hg3 hP3
  have HT4 : Hid (R = (Gram.need T (j2 + 1) (Gram.seesItem T (j2 + 1)) (Gram.items T f d [] (j2 + 1))).bind fun its j => (Gram.transs T [117, 110, 116, 105, 108] d f [] j).bind fun ut j => .ok (Gram.State.mk nx l1 ut l2 its x.at_) j) := by show _ = _; rw [HT3.out, Gram.expect_yes e3]; rfl
  clear HT3 hN3 HS3 hP3 hg3
  clear z0 z1 z2 z3 z4 z5 zf
  have hLf4 : (Gram.need T (j2 + 1) (Gram.seesItem T (j2 + 1)) (Gram.items T f d [] (j2 + 1))).isFuel = false := by rw [HT4.out] at hf; exact Gram.PR.bind_fuel hf
  have hL4 := gitems_any b g cap rv T d f hC (j2 + 1) _ hS4.pa hLf4
  have HS4 := Lib.hid hS4
  clear hS4
  cases hr4 : Gram.need T (j2 + 1) (Gram.seesItem T (j2 + 1)) (Gram.items T f d [] (j2 + 1)) with
  | fuel => rw [hr4] at hLf4; cases hLf4
  | bad a er =>
    rw [hr4] at hL4
    simp only [lPost] at hL4
    refine Lib.hid ?_
    go_wp2_with (first | (go_at_call 81; refine hL4.mono ?_; rintro e w9 ⟨rfl, hgz⟩))
    refine ⟨rfl, ?_⟩
    rw [HT4.out, hr4]
    exact ⟨rfl, (grown_some (World.grownBy_alloc w sta0 none) b).trans (HS4.out.gr.trans hgz)⟩
  | ok l4 j4 =>
  rw [hr4] at hL4
  simp only [lPost] at hL4
  have HT5 : Hid (R = (Gram.transs T [117, 110, 116, 105, 108] d f [] j4).bind fun ut j => .ok (Gram.State.mk nx l1 ut l2 l4 x.at_) j) := by show _ = _; rw [HT4.out, hr4]; rfl
  clear HT4 hr4 hLf4
  refine Lib.hid ?_
  go_wp2_with (first | (go_at_call 81; refine hL4.mono ?_; rintro e x4 ⟨v4, rfl, hk4, hP4, hg4⟩; obtain ⟨pa4, pn4, pc4, rfl⟩ := hk4.form; refine Hid.out ?_))
  have hSa := HS4.out.on hg4 hP4
  have hql4 := HS4.out.ql
  obtain ⟨z0, z1, z2, z3, z4, z5, zf⟩ := cells_6 (show x4.heap[w2.heap.size]? = some (.cells #[.string ⟨nx.toArray⟩, .slice pa1 pn1 pc1, .slice none 0 0, .slice pa2 pn2 pc2, .slice none 0 0, .int .i64 (x.at_ : Int)] 182 (0, 0)) from hSa.row)
  have hS5 : Ss (w.alloc sta0) (x4.setCell ⟨w2.heap.size, 4, none⟩ (.slice pa4 pn4 pc4)) b g cap rv T w2.heap.size j4 d 182 [.c (.string ⟨nx.toArray⟩), .l 222 12 (l1.map transD), .l 222 12 [], .l 139 5 (l2.map varD), .l 41 12 (l4.map itemD), .c (.int .i64 (x.at_ : Int))] [.string ⟨nx.toArray⟩, .slice pa1 pn1 pc1, .slice none 0 0, .slice pa2 pn2 pc2, .slice pa4 pn4 pc4, .int .i64 (x.at_ : Int)] := hSa.set 4 (hk4.mono (Nat.succ_le_of_lt hql4)).rep
  clear hSa hL4 hk4 hP4 hg4 HS4
  have hLf5 : (Gram.transs T [117, 110, 116, 105, 108] d f [] j4).isFuel = false := by rw [HT5.out] at hf; exact Gram.PR.bind_fuel hf
  have hL5 := gmany_until b g cap rv T d f (fun f' _ i w hp hs hf => gtrans_any b g cap rv T d f' i [117, 110, 116, 105, 108] (by decide) w hp hs hf) j4 _ hS5.pa hLf5
  have HS5 := Lib.hid hS5
  clear hS5
  cases hr5 : Gram.transs T [117, 110, 116, 105, 108] d f [] j4 with
  | fuel => rw [hr5] at hLf5; cases hLf5
  | bad a er =>
    rw [hr5] at hL5
    simp only [lPost] at hL5
    refine Lib.hid ?_
    go_wp2_with (first | (go_at_call 204; refine hL5.mono ?_; rintro e w9 ⟨rfl, hgz⟩))
    refine ⟨rfl, ?_⟩
    rw [HT5.out, hr5]
    exact ⟨rfl, (grown_some (World.grownBy_alloc w sta0 none) b).trans (HS5.out.gr.trans hgz)⟩
  | ok l5 j5 =>
  rw [hr5] at hL5
  simp only [lPost] at hL5
  have HT6 : Hid (R = Gram.PR.ok (Gram.State.mk nx l1 l5 l2 l4 x.at_) j5) := by show _ = _; rw [HT5.out, hr5]; rfl
  clear HT5 hr5 hLf5
  refine Lib.hid ?_
  go_wp2_with (first | (go_at_call 204; refine hL5.mono ?_; rintro e x5 ⟨v5, rfl, hk5, hP5, hg5⟩; obtain ⟨pa5, pn5, pc5, rfl⟩ := hk5.form; refine Hid.out ?_))
  clear z0 z1 z2 z3 z4 z5 zf
  have hSa := HS5.out.on hg5 hP5
  have hql5 := HS5.out.ql
  obtain ⟨z0, z1, z2, z3, z4, z5, zf⟩ := cells_6 (show x5.heap[w2.heap.size]? = some (.cells #[.string ⟨nx.toArray⟩, .slice pa1 pn1 pc1, .slice none 0 0, .slice pa2 pn2 pc2, .slice pa4 pn4 pc4, .int .i64 (x.at_ : Int)] 182 (0, 0)) from hSa.row)
  have hS6 : Ss (w.alloc sta0) (x5.setCell ⟨w2.heap.size, 2, none⟩ (.slice pa5 pn5 pc5)) b g cap rv T w2.heap.size j5 d 182 [.c (.string ⟨nx.toArray⟩), .l 222 12 (l1.map transD), .l 222 12 (l5.map transD), .l 139 5 (l2.map varD), .l 41 12 (l4.map itemD), .c (.int .i64 (x.at_ : Int))] [.string ⟨nx.toArray⟩, .slice pa1 pn1 pc1, .slice pa5 pn5 pc5, .slice pa2 pn2 pc2, .slice pa4 pn4 pc4, .int .i64 (x.at_ : Int)] := hSa.set 2 (hk5.mono (Nat.succ_le_of_lt hql5)).rep
  clear hSa hL5 hk5 hP5 hg5 HS5
  have hgA := hS6.gr
  obtain ⟨y0, y1, y2, y3, y4, y5, yf⟩ := cells_6 (show (x5.setCell ⟨w2.heap.size, 2, none⟩ (.slice pa5 pn5 pc5)).heap[w2.heap.size]? = some (.cells #[.string ⟨nx.toArray⟩, .slice pa1 pn1 pc1, .slice pa5 pn5 pc5, .slice pa2 pn2 pc2, .slice pa4 pn4 pc4, .int .i64 (x.at_ : Int)] 182 (0, 0)) from hS6.row)
  have HSE := Lib.hid hS6
  clear hS6
  refine Lib.hid ?_
  go_wp2_with (with_reducible refine hold_st 2 ?_)
  refine Lib.hid ?_
  refine wpList_store_gen rfl _ _ _ rfl w.heap.size _ rfl rfl 182 _ ((hgA.block w.heap.size (by simp) (by simp; omega)).trans (heap_alloc_new w sta0)) (by kernel_rfl) rfl (by simp [Value.oneCell']) ?_
  intro w7 hh7 hg7
  go_wp2
  (try simp only [Exit.inBlock, Exit.then])
  refine bodyPost_ret (results_cell_row rfl _ _ w.heap.size 182 _ (0, 0) _ rfl hh7 Tryz.underlying182 rfl (by kernel_rfl)) rfl ?_
  have hG : w.grownBy w7 (some b) := ((grown_some (World.grownBy_alloc w sta0 none) b).trans hgA).andThen hg7 (fun j e => .inl (by cases e; exact Nat.le_refl _))
  obtain ⟨hkk, hss⟩ := HSE.out.ends hg7 (by simp) (by omega)
  rw [HT6.out]
  refine ⟨_, rfl, ?_, HH.out.to hG hss HSE.out.pa.lt, hG⟩
  simpa only [stateD, itemsD_map] using hkk
end

def CState (b g cap : Nat) (rv : Value) (T : List Lex.Tk) (f : Nat) : Prop := ∀ (d i : Nat) (w : World), Pa w b g cap rv T i d → Gram.sees T i [115, 116, 97, 116, 101] = true → (Gram.state T f d i).isFuel = false → Calls Tryz.prog 186 #[.pointer (some ⟨b, 0, none⟩)] w fun e w' => rPost stateD w b g cap rv T d (Gram.state T f d i) e w'
def CItem (b g cap : Nat) (rv : Value) (T : List Lex.Tk) (f : Nat) : Prop := ∀ (d i : Nat) (w : World), Pa w b g cap rv T i d → (Gram.item T f d i).isFuel = false → Calls Tryz.prog 127 #[.pointer (some ⟨b, 0, none⟩)] w fun e w' => rPost itemD w b g cap rv T d (Gram.item T f d i) e w'
/-- states and items, by induction on the steps -/
theorem cstate_all (b g cap : Nat) (rv : Value) (T : List Lex.Tk) : ∀ f, CState b g cap rv T f ∧ CItem b g cap rv T f := by
  intro f
  induction f using Nat.strongRecOn with
  | ind f ih =>
    cases f with
    | zero =>
      refine ⟨?_, ?_⟩
      · intro d i w _ _ hf; unfold Gram.state at hf; cases hf
      · intro d i w _ hf; unfold Gram.item at hf; cases hf
    | succ f =>
      refine ⟨?_, ?_⟩
      · intro d i w h hs hf
        exact gstate_step b g cap rv T d f i (fun f' h i w hp _ hf => (ih f' (by omega)).2 d i w hp hf) w h hs hf
      · intro d i w h hf
        exact gitem_any b g cap rv T d f i (fun f' h i w hp hs hf => (ih f' (by omega)).1 (d + 1) i w hp hs hf) w h hf

end Go.Proofs.YtachmiajldeakaaGreatDoor

/- gram's node and program (made by mkseq2.py). -/
namespace Go.Proofs.YtachmiajldeakaaGreatDoor
open Go.RowKit Go.Maps Go.WideMaps

def nod0 : Obj := .cells #[.string ⟨#[]⟩, .slice none 0 0, .slice none 0 0, .slice none 0 0, .slice none 0 0, .int .i64 0] 45

def prg0 : Obj := .cells #[.slice none 0 0] 32
/-- what program does -/
def pgPost (w : World) (b g cap : Nat) (rv : Value) (T : List Lex.Tk) (r : Gram.PR (List Gram.Node)) (e : Ending) (w' : World) : Prop :=
  match r with
  | .ok l i => ∃ v, e = .returned (.agg #[v]) ∧ GrowD w' w.heap.size 45 6 (l.map nodeD) v ∧ Pa w' b g cap rv T i 0 ∧ w.grownBy w' (some b)
  | .bad a er => gBad w b a er e w'
  | .fuel => False

section
variable (b g cap : Nat) (rv : Value) (T : List Lex.Tk)

set_option maxHeartbeats 12800000 in
set_option maxRecDepth 20000 in
theorem gnode_any (f i : Nat) (w : World) (h : Pa w b g cap rv T i 0) (hs : Gram.sees T i [110, 111, 100, 101] = true) (hf : (Gram.node T f i).isFuel = false) :
    Calls Tryz.prog 35 #[.pointer (some ⟨b, 0, none⟩)] w fun e w' => rPost nodeD w b g cap rv T 0 (Gram.node T f i) e w' := by
  have hbw := h.bl
  have hP0 := h.alloc nod0
  obtain ⟨R, hR⟩ : ∃ R, R = Gram.node T f i := ⟨_, rfl⟩
  rw [← hR] at hf ⊢
  unfold Gram.node at hR
  rw [Gram.expect_yes hs, Gram.PR.ok_bind] at hR
  have hX := gexpect_yes b g cap rv T i 0 ⟨#[110, 111, 100, 101]⟩ _ hP0 hs (hP0.nextSees hs (by decide))
  generalize Gram.tk T i = x at hX hR
  simp only [Gram.need_bind] at hR
  have HR := Lib.hid hR
  clear hR
  have hfa := fldAt x
  have hmf := makeFunc_run
  have HH := Lib.hid h
  clear h
  go_enter Tryz.func35, Tryz.ntmps35
  go_wp2_with (first | (go_at_call 77; refine hX.mono ?_; rintro e w1 ⟨rfl, hP1, hg1⟩; refine Hid.out ?_))
  have hs1 := hg1.size
  rw [World.size_alloc] at hs1
  clear hX
  rcases Bool.eq_false_or_eq_true (Gram.isName T (i + 1)) with e0 | e0
  case inr =>
    have hN := gname_no b g cap rv T (i + 1) 0 _ hP1 e0
    refine Lib.hid ?_
    go_wp2_with (first | (go_at_call 78; refine hN.mono ?_; rintro e w9 ⟨rfl, hgz⟩))
    refine ⟨rfl, ?_⟩
    rw [HR.out]
    unfold Gram.name Gram.need Gram.fail
    rw [if_neg (by rw [e0]; decide)]
    exact ⟨rfl, (grown_some (World.grownBy_alloc w nod0 none) b).trans (hg1.trans hgz)⟩
  have hN := gname_yes b g cap rv T (i + 1) 0 _ hP1 e0
  have hR1 : R = (Gram.expect T (i + 1 + 1) [40]).bind fun _ j => (if Gram.sees T j [41] then Gram.PR.ok [] j else Gram.decls T f [] j).bind fun ins j => (Gram.expect T j [41]).bind fun _ j => (Gram.expect T j [114, 101, 116, 117, 114, 110, 115]).bind fun _ j => (Gram.expect T j [40]).bind fun _ j => (Gram.decls T f [] j).bind fun outs j => (Gram.expect T j [41]).bind fun _ j => (Gram.locals T f j).bind fun ls j => (Gram.expect T j [108, 101, 116]).bind fun _ j => (Gram.need T j (Gram.seesItem T j) (Gram.items T f 0 [] j)).bind fun its j => (Gram.expect T j [116, 101, 108]).bind fun _ j => .ok (⟨(Gram.tk T (i + 1)).text, ins, outs, ls, its, x.at_⟩ : Gram.Node) j := by
    rw [HR.out]
    have e : Gram.name T (i + 1) = .ok (Gram.tk T (i + 1)).text (i + 1 + 1) := by unfold Gram.name Gram.need; rw [if_pos e0]
    rw [e, Gram.PR.ok_bind]
  have HRn := Lib.hid hR1
  clear HR hR1
  generalize (Gram.tk T (i + 1)).text = nx at hN HRn
  refine Lib.hid ?_
  go_wp2_with (first | (go_at_call 78; refine hN.mono ?_; rintro e w2 ⟨rfl, hP2, hg2⟩; refine Hid.out ?_))
  have hs2 := hg2.size
  have hS0 : Ss (w.alloc nod0) (w2.alloc (.cells #[.string ⟨nx.toArray⟩, .slice none 0 0, .slice none 0 0, .slice none 0 0, .slice none 0 0, .int .i64 (x.at_ : Int)] 45)) b g cap rv T w2.heap.size (i + 1 + 1) 0 45 [.c (.string ⟨nx.toArray⟩), .l 139 5 [], .l 139 5 [], .l 139 5 [], .l 41 12 [], .c (.int .i64 (x.at_ : Int))] [.string ⟨nx.toArray⟩, .slice none 0 0, .slice none 0 0, .slice none 0 0, .slice none 0 0, .int .i64 (x.at_ : Int)] :=
    Ss.make ⟨i, hP0⟩ (hP2.alloc _) (galloc (hg1.trans hg2) _) (by simp; omega) (heap_alloc_new w2 _) (.cons (.c _) (.cons (RepC.nil _ _ _ _ _) (.cons (RepC.nil _ _ _ _ _) (.cons (RepC.nil _ _ _ _ _) (.cons (RepC.nil _ _ _ _ _) (.cons (.c _) .nil))))))
  clear hN
  rcases Bool.eq_false_or_eq_true (Gram.sees T (i + 1 + 1) [40]) with e9 | e9
  case inr =>
    have hN := gexpect_no b g cap rv T (i + 1 + 1) 0 ⟨#[40]⟩ _ hS0.pa e9
    have hg9 := hS0.gr
    refine Lib.hid ?_
    go_wp2_with (first | (go_at_call 77; refine hN.mono ?_; rintro e w9 ⟨rfl, hgz⟩))
    refine ⟨rfl, ?_⟩
    rw [HRn.out, Gram.expect_no e9]
    exact ⟨rfl, (grown_some (World.grownBy_alloc w nod0 none) b).trans (hg9.trans hgz)⟩
  have hN0 := gexpect_yes b g cap rv T (i + 1 + 1) 0 ⟨#[40]⟩ _ hS0.pa e9 (hS0.pa.nextSees e9 (by decide))
  have HS0 := Lib.hid hS0
  clear hS0
  refine Lib.hid ?_
  go_wp2_with (first | (go_at_call 77; refine hN0.mono ?_; rintro e x00 ⟨rfl, hP00, hg00⟩; refine Hid.out ?_))
  have hS00 := HS0.out.on hg00 hP00
  have HRm : Hid (R = (if Gram.sees T (i + 1 + 1 + 1) [41] then Gram.PR.ok [] (i + 1 + 1 + 1) else Gram.decls T f [] (i + 1 + 1 + 1)).bind fun ins j => (Gram.expect T j [41]).bind fun _ j => (Gram.expect T j [114, 101, 116, 117, 114, 110, 115]).bind fun _ j => (Gram.expect T j [40]).bind fun _ j => (Gram.decls T f [] j).bind fun outs j => (Gram.expect T j [41]).bind fun _ j => (Gram.locals T f j).bind fun ls j => (Gram.expect T j [108, 101, 116]).bind fun _ j => (Gram.need T j (Gram.seesItem T j) (Gram.items T f 0 [] j)).bind fun its j => (Gram.expect T j [116, 101, 108]).bind fun _ j => .ok (⟨nx, ins, outs, ls, its, x.at_⟩ : Gram.Node) j) := by show _ = _; rw [HRn.out, Gram.expect_yes e9]; rfl
  clear HRn hN0 HS0 hP00 hg00
  have hSee := gsees_any b g cap rv T (i + 1 + 1 + 1) 0 ⟨#[41]⟩ _ hS00.pa
  rcases Bool.eq_false_or_eq_true (Gram.sees T (i + 1 + 1 + 1) [41]) with e8 | e8
  · have e8' : Gram.sees T (i + 1 + 1 + 1) (ByteArray.mk #[41]).data.toList = true := e8
    rw [e8'] at hSee
    have HS00 := Lib.hid hS00
    clear hS00
    refine Lib.hid ?_
    go_wp2_with (first | (go_at_call 76; refine hSee.mono ?_; rintro e x0 ⟨rfl, hg0⟩; refine Hid.out ?_))
    have hS1 := HS00.out.kept0 hg0
    have HT1 : Hid (R = (Gram.expect T (i + 1 + 1 + 1) [41]).bind fun _ j => (Gram.expect T j [114, 101, 116, 117, 114, 110, 115]).bind fun _ j => (Gram.expect T j [40]).bind fun _ j => (Gram.decls T f [] j).bind fun outs j => (Gram.expect T j [41]).bind fun _ j => (Gram.locals T f j).bind fun ls j => (Gram.expect T j [108, 101, 116]).bind fun _ j => (Gram.need T j (Gram.seesItem T j) (Gram.items T f 0 [] j)).bind fun its j => (Gram.expect T j [116, 101, 108]).bind fun _ j => .ok (⟨nx, [], outs, ls, its, x.at_⟩ : Gram.Node) j) := by show _ = _; rw [HRm.out, if_pos e8]; rfl
    clear HRm HS00 hSee hg0
    rcases Bool.eq_false_or_eq_true (Gram.sees T (i + 1 + 1 + 1) [41]) with e1 | e1
    case inr =>
      have hN := gexpect_no b g cap rv T (i + 1 + 1 + 1) 0 ⟨#[41]⟩ _ hS1.pa e1
      have hg9 := hS1.gr
      refine Lib.hid ?_
      go_wp2_with (first | (go_at_call 77; refine hN.mono ?_; rintro e w9 ⟨rfl, hgz⟩))
      refine ⟨rfl, ?_⟩
      rw [HT1.out, Gram.expect_no e1]
      exact ⟨rfl, (grown_some (World.grownBy_alloc w nod0 none) b).trans (hg9.trans hgz)⟩
    have hN1 := gexpect_yes b g cap rv T (i + 1 + 1 + 1) 0 ⟨#[41]⟩ _ hS1.pa e1 (hS1.pa.nextSees e1 (by decide))
    have HS1 := Lib.hid hS1
    clear hS1
    refine Lib.hid ?_
    go_wp2_with (first | (go_at_call 77; refine hN1.mono ?_; rintro e x1 ⟨rfl, hP1, hg1⟩; refine Hid.out ?_))
    have hS2 := HS1.out.on hg1 hP1
    have HT2 : Hid (R = (Gram.expect T ((i + 1 + 1 + 1) + 1) [114, 101, 116, 117, 114, 110, 115]).bind fun _ j => (Gram.expect T j [40]).bind fun _ j => (Gram.decls T f [] j).bind fun outs j => (Gram.expect T j [41]).bind fun _ j => (Gram.locals T f j).bind fun ls j => (Gram.expect T j [108, 101, 116]).bind fun _ j => (Gram.need T j (Gram.seesItem T j) (Gram.items T f 0 [] j)).bind fun its j => (Gram.expect T j [116, 101, 108]).bind fun _ j => .ok (⟨nx, [], outs, ls, its, x.at_⟩ : Gram.Node) j) := by show _ = _; rw [HT1.out, Gram.expect_yes e1]; rfl
    clear HT1 hN1 HS1 hP1 hg1
    rcases Bool.eq_false_or_eq_true (Gram.sees T ((i + 1 + 1 + 1) + 1) [114, 101, 116, 117, 114, 110, 115]) with e2 | e2
    case inr =>
      have hN := gexpect_no b g cap rv T ((i + 1 + 1 + 1) + 1) 0 ⟨#[114, 101, 116, 117, 114, 110, 115]⟩ _ hS2.pa e2
      have hg9 := hS2.gr
      refine Lib.hid ?_
      go_wp2_with (first | (go_at_call 77; refine hN.mono ?_; rintro e w9 ⟨rfl, hgz⟩))
      refine ⟨rfl, ?_⟩
      rw [HT2.out, Gram.expect_no e2]
      exact ⟨rfl, (grown_some (World.grownBy_alloc w nod0 none) b).trans (hg9.trans hgz)⟩
    have hN2 := gexpect_yes b g cap rv T ((i + 1 + 1 + 1) + 1) 0 ⟨#[114, 101, 116, 117, 114, 110, 115]⟩ _ hS2.pa e2 (hS2.pa.nextSees e2 (by decide))
    have HS2 := Lib.hid hS2
    clear hS2
    refine Lib.hid ?_
    go_wp2_with (first | (go_at_call 77; refine hN2.mono ?_; rintro e x2 ⟨rfl, hP2, hg2⟩; refine Hid.out ?_))
    have hS3 := HS2.out.on hg2 hP2
    have HT3 : Hid (R = (Gram.expect T (((i + 1 + 1 + 1) + 1) + 1) [40]).bind fun _ j => (Gram.decls T f [] j).bind fun outs j => (Gram.expect T j [41]).bind fun _ j => (Gram.locals T f j).bind fun ls j => (Gram.expect T j [108, 101, 116]).bind fun _ j => (Gram.need T j (Gram.seesItem T j) (Gram.items T f 0 [] j)).bind fun its j => (Gram.expect T j [116, 101, 108]).bind fun _ j => .ok (⟨nx, [], outs, ls, its, x.at_⟩ : Gram.Node) j) := by show _ = _; rw [HT2.out, Gram.expect_yes e2]; rfl
    clear HT2 hN2 HS2 hP2 hg2
    rcases Bool.eq_false_or_eq_true (Gram.sees T (((i + 1 + 1 + 1) + 1) + 1) [40]) with e3 | e3
    case inr =>
      have hN := gexpect_no b g cap rv T (((i + 1 + 1 + 1) + 1) + 1) 0 ⟨#[40]⟩ _ hS3.pa e3
      have hg9 := hS3.gr
      refine Lib.hid ?_
      go_wp2_with (first | (go_at_call 77; refine hN.mono ?_; rintro e w9 ⟨rfl, hgz⟩))
      refine ⟨rfl, ?_⟩
      rw [HT3.out, Gram.expect_no e3]
      exact ⟨rfl, (grown_some (World.grownBy_alloc w nod0 none) b).trans (hg9.trans hgz)⟩
    have hN3 := gexpect_yes b g cap rv T (((i + 1 + 1 + 1) + 1) + 1) 0 ⟨#[40]⟩ _ hS3.pa e3 (hS3.pa.nextSees e3 (by decide))
    have HS3 := Lib.hid hS3
    clear hS3
    refine Lib.hid ?_
    go_wp2_with (first | (go_at_call 77; refine hN3.mono ?_; rintro e x3 ⟨rfl, hP3, hg3⟩; refine Hid.out ?_))
    have hS4 := HS3.out.on hg3 hP3
    have HT4 : Hid (R = (Gram.decls T f [] ((((i + 1 + 1 + 1) + 1) + 1) + 1)).bind fun outs j => (Gram.expect T j [41]).bind fun _ j => (Gram.locals T f j).bind fun ls j => (Gram.expect T j [108, 101, 116]).bind fun _ j => (Gram.need T j (Gram.seesItem T j) (Gram.items T f 0 [] j)).bind fun its j => (Gram.expect T j [116, 101, 108]).bind fun _ j => .ok (⟨nx, [], outs, ls, its, x.at_⟩ : Gram.Node) j) := by show _ = _; rw [HT3.out, Gram.expect_yes e3]; rfl
    clear HT3 hN3 HS3 hP3 hg3
    have hLf4 : (Gram.decls T f [] ((((i + 1 + 1 + 1) + 1) + 1) + 1)).isFuel = false := by rw [HT4.out] at hf; exact Gram.PR.bind_fuel hf
    have hL4 := gdecls_any b g cap rv T 0 f ((((i + 1 + 1 + 1) + 1) + 1) + 1) _ hS4.pa hLf4
    have HS4 := Lib.hid hS4
    clear hS4
    cases hr4 : Gram.decls T f [] ((((i + 1 + 1 + 1) + 1) + 1) + 1) with
    | fuel => rw [hr4] at hLf4; cases hLf4
    | bad a er =>
      rw [hr4] at hL4
      simp only [lPost] at hL4
      refine Lib.hid ?_
      go_wp2_with (first | (go_at_call 79; refine hL4.mono ?_; rintro e w9 ⟨rfl, hgz⟩))
      refine ⟨rfl, ?_⟩
      rw [HT4.out, hr4]
      exact ⟨rfl, (grown_some (World.grownBy_alloc w nod0 none) b).trans (HS4.out.gr.trans hgz)⟩
    | ok l4 j4 =>
    rw [hr4] at hL4
    simp only [lPost] at hL4
    have HT5 : Hid (R = (Gram.expect T j4 [41]).bind fun _ j => (Gram.locals T f j).bind fun ls j => (Gram.expect T j [108, 101, 116]).bind fun _ j => (Gram.need T j (Gram.seesItem T j) (Gram.items T f 0 [] j)).bind fun its j => (Gram.expect T j [116, 101, 108]).bind fun _ j => .ok (⟨nx, [], l4, ls, its, x.at_⟩ : Gram.Node) j) := by show _ = _; rw [HT4.out, hr4]; rfl
    clear HT4 hr4 hLf4
    refine Lib.hid ?_
    go_wp2_with (first | (go_at_call 79; refine hL4.mono ?_; rintro e x4 ⟨v4, rfl, hk4, hP4, hg4⟩; obtain ⟨pa4, pn4, pc4, rfl⟩ := hk4.form; refine Hid.out ?_))
    have hSa := HS4.out.on hg4 hP4
    have hql4 := HS4.out.ql
    obtain ⟨z0, z1, z2, z3, z4, z5, zf⟩ := cells_6 (show x4.heap[w2.heap.size]? = some (.cells #[.string ⟨nx.toArray⟩, .slice none 0 0, .slice none 0 0, .slice none 0 0, .slice none 0 0, .int .i64 (x.at_ : Int)] 45 (0, 0)) from hSa.row)
    have hS5 : Ss (w.alloc nod0) (x4.setCell ⟨w2.heap.size, 2, none⟩ (.slice pa4 pn4 pc4)) b g cap rv T w2.heap.size j4 0 45 [.c (.string ⟨nx.toArray⟩), .l 139 5 [], .l 139 5 (l4.map varD), .l 139 5 [], .l 41 12 [], .c (.int .i64 (x.at_ : Int))] [.string ⟨nx.toArray⟩, .slice none 0 0, .slice pa4 pn4 pc4, .slice none 0 0, .slice none 0 0, .int .i64 (x.at_ : Int)] := hSa.set 2 (hk4.mono (Nat.succ_le_of_lt hql4)).rep
    clear hSa hL4 hk4 hP4 hg4 HS4
    rcases Bool.eq_false_or_eq_true (Gram.sees T j4 [41]) with e5 | e5
    case inr =>
      have hN := gexpect_no b g cap rv T j4 0 ⟨#[41]⟩ _ hS5.pa e5
      have hg9 := hS5.gr
      refine Lib.hid ?_
      go_wp2_with (first | (go_at_call 77; refine hN.mono ?_; rintro e w9 ⟨rfl, hgz⟩))
      refine ⟨rfl, ?_⟩
      rw [HT5.out, Gram.expect_no e5]
      exact ⟨rfl, (grown_some (World.grownBy_alloc w nod0 none) b).trans (hg9.trans hgz)⟩
    have hN5 := gexpect_yes b g cap rv T j4 0 ⟨#[41]⟩ _ hS5.pa e5 (hS5.pa.nextSees e5 (by decide))
    have HS5 := Lib.hid hS5
    clear hS5
    refine Lib.hid ?_
    go_wp2_with (first | (go_at_call 77; refine hN5.mono ?_; rintro e x5 ⟨rfl, hP5, hg5⟩; refine Hid.out ?_))
    have hS6 := HS5.out.on hg5 hP5
    have HT6 : Hid (R = (Gram.locals T f (j4 + 1)).bind fun ls j => (Gram.expect T j [108, 101, 116]).bind fun _ j => (Gram.need T j (Gram.seesItem T j) (Gram.items T f 0 [] j)).bind fun its j => (Gram.expect T j [116, 101, 108]).bind fun _ j => .ok (⟨nx, [], l4, ls, its, x.at_⟩ : Gram.Node) j) := by show _ = _; rw [HT5.out, Gram.expect_yes e5]; rfl
    clear HT5 hN5 HS5 hP5 hg5
    clear z0 z1 z2 z3 z4 z5 zf
    have hLf6 : (Gram.locals T f (j4 + 1)).isFuel = false := by rw [HT6.out] at hf; exact Gram.PR.bind_fuel hf
    have hL6 := glocals_any b g cap rv T 0 f (j4 + 1) _ hS6.pa hLf6
    have HS6 := Lib.hid hS6
    clear hS6
    cases hr6 : Gram.locals T f (j4 + 1) with
    | fuel => rw [hr6] at hLf6; cases hLf6
    | bad a er =>
      rw [hr6] at hL6
      simp only [lPost] at hL6
      refine Lib.hid ?_
      go_wp2_with (first | (go_at_call 80; refine hL6.mono ?_; rintro e w9 ⟨rfl, hgz⟩))
      refine ⟨rfl, ?_⟩
      rw [HT6.out, hr6]
      exact ⟨rfl, (grown_some (World.grownBy_alloc w nod0 none) b).trans (HS6.out.gr.trans hgz)⟩
    | ok l6 j6 =>
    rw [hr6] at hL6
    simp only [lPost] at hL6
    have HT7 : Hid (R = (Gram.expect T j6 [108, 101, 116]).bind fun _ j => (Gram.need T j (Gram.seesItem T j) (Gram.items T f 0 [] j)).bind fun its j => (Gram.expect T j [116, 101, 108]).bind fun _ j => .ok (⟨nx, [], l4, l6, its, x.at_⟩ : Gram.Node) j) := by show _ = _; rw [HT6.out, hr6]; rfl
    clear HT6 hr6 hLf6
    refine Lib.hid ?_
    go_wp2_with (first | (go_at_call 80; refine hL6.mono ?_; rintro e x6 ⟨v6, rfl, hk6, hP6, hg6⟩; obtain ⟨pa6, pn6, pc6, rfl⟩ := hk6.form; refine Hid.out ?_))
    have hSa := HS6.out.on hg6 hP6
    have hql6 := HS6.out.ql
    obtain ⟨z0, z1, z2, z3, z4, z5, zf⟩ := cells_6 (show x6.heap[w2.heap.size]? = some (.cells #[.string ⟨nx.toArray⟩, .slice none 0 0, .slice pa4 pn4 pc4, .slice none 0 0, .slice none 0 0, .int .i64 (x.at_ : Int)] 45 (0, 0)) from hSa.row)
    have hS7 : Ss (w.alloc nod0) (x6.setCell ⟨w2.heap.size, 3, none⟩ (.slice pa6 pn6 pc6)) b g cap rv T w2.heap.size j6 0 45 [.c (.string ⟨nx.toArray⟩), .l 139 5 [], .l 139 5 (l4.map varD), .l 139 5 (l6.map varD), .l 41 12 [], .c (.int .i64 (x.at_ : Int))] [.string ⟨nx.toArray⟩, .slice none 0 0, .slice pa4 pn4 pc4, .slice pa6 pn6 pc6, .slice none 0 0, .int .i64 (x.at_ : Int)] := hSa.set 3 (hk6.mono (Nat.succ_le_of_lt hql6)).rep
    clear hSa hL6 hk6 hP6 hg6 HS6
    rcases Bool.eq_false_or_eq_true (Gram.sees T j6 [108, 101, 116]) with e7 | e7
    case inr =>
      have hN := gexpect_no b g cap rv T j6 0 ⟨#[108, 101, 116]⟩ _ hS7.pa e7
      have hg9 := hS7.gr
      refine Lib.hid ?_
      go_wp2_with (first | (go_at_call 77; refine hN.mono ?_; rintro e w9 ⟨rfl, hgz⟩))
      refine ⟨rfl, ?_⟩
      rw [HT7.out, Gram.expect_no e7]
      exact ⟨rfl, (grown_some (World.grownBy_alloc w nod0 none) b).trans (hg9.trans hgz)⟩
    have hN7 := gexpect_yes b g cap rv T j6 0 ⟨#[108, 101, 116]⟩ _ hS7.pa e7 (hS7.pa.nextSees e7 (by decide))
    have HS7 := Lib.hid hS7
    clear hS7
    refine Lib.hid ?_
    go_wp2_with (first | (go_at_call 77; refine hN7.mono ?_; rintro e x7 ⟨rfl, hP7, hg7⟩; refine Hid.out ?_))
    have hS8 := HS7.out.on hg7 hP7
    have HT8 : Hid (R = (Gram.need T (j6 + 1) (Gram.seesItem T (j6 + 1)) (Gram.items T f 0 [] (j6 + 1))).bind fun its j => (Gram.expect T j [116, 101, 108]).bind fun _ j => .ok (⟨nx, [], l4, l6, its, x.at_⟩ : Gram.Node) j) := by show _ = _; rw [HT7.out, Gram.expect_yes e7]; rfl
    clear HT7 hN7 HS7 hP7 hg7
    clear z0 z1 z2 z3 z4 z5 zf
    have hLf8 : (Gram.need T (j6 + 1) (Gram.seesItem T (j6 + 1)) (Gram.items T f 0 [] (j6 + 1))).isFuel = false := by rw [HT8.out] at hf; exact Gram.PR.bind_fuel hf
    have hL8 := gitems_any b g cap rv T 0 f (fun f' h i w hp _ hf => (cstate_all b g cap rv T f').2 0 i w hp hf) (j6 + 1) _ hS8.pa hLf8
    have HS8 := Lib.hid hS8
    clear hS8
    cases hr8 : Gram.need T (j6 + 1) (Gram.seesItem T (j6 + 1)) (Gram.items T f 0 [] (j6 + 1)) with
    | fuel => rw [hr8] at hLf8; cases hLf8
    | bad a er =>
      rw [hr8] at hL8
      simp only [lPost] at hL8
      refine Lib.hid ?_
      go_wp2_with (first | (go_at_call 81; refine hL8.mono ?_; rintro e w9 ⟨rfl, hgz⟩))
      refine ⟨rfl, ?_⟩
      rw [HT8.out, hr8]
      exact ⟨rfl, (grown_some (World.grownBy_alloc w nod0 none) b).trans (HS8.out.gr.trans hgz)⟩
    | ok l8 j8 =>
    rw [hr8] at hL8
    simp only [lPost] at hL8
    have HT9 : Hid (R = (Gram.expect T j8 [116, 101, 108]).bind fun _ j => .ok (⟨nx, [], l4, l6, l8, x.at_⟩ : Gram.Node) j) := by show _ = _; rw [HT8.out, hr8]; rfl
    clear HT8 hr8 hLf8
    refine Lib.hid ?_
    go_wp2_with (first | (go_at_call 81; refine hL8.mono ?_; rintro e x8 ⟨v8, rfl, hk8, hP8, hg8⟩; obtain ⟨pa8, pn8, pc8, rfl⟩ := hk8.form; refine Hid.out ?_))
    have hSa := HS8.out.on hg8 hP8
    have hql8 := HS8.out.ql
    obtain ⟨z0, z1, z2, z3, z4, z5, zf⟩ := cells_6 (show x8.heap[w2.heap.size]? = some (.cells #[.string ⟨nx.toArray⟩, .slice none 0 0, .slice pa4 pn4 pc4, .slice pa6 pn6 pc6, .slice none 0 0, .int .i64 (x.at_ : Int)] 45 (0, 0)) from hSa.row)
    have hS9 : Ss (w.alloc nod0) (x8.setCell ⟨w2.heap.size, 4, none⟩ (.slice pa8 pn8 pc8)) b g cap rv T w2.heap.size j8 0 45 [.c (.string ⟨nx.toArray⟩), .l 139 5 [], .l 139 5 (l4.map varD), .l 139 5 (l6.map varD), .l 41 12 (l8.map itemD), .c (.int .i64 (x.at_ : Int))] [.string ⟨nx.toArray⟩, .slice none 0 0, .slice pa4 pn4 pc4, .slice pa6 pn6 pc6, .slice pa8 pn8 pc8, .int .i64 (x.at_ : Int)] := hSa.set 4 (hk8.mono (Nat.succ_le_of_lt hql8)).rep
    clear hSa hL8 hk8 hP8 hg8 HS8
    rcases Bool.eq_false_or_eq_true (Gram.sees T j8 [116, 101, 108]) with e9 | e9
    case inr =>
      have hN := gexpect_no b g cap rv T j8 0 ⟨#[116, 101, 108]⟩ _ hS9.pa e9
      have hg9 := hS9.gr
      refine Lib.hid ?_
      go_wp2_with (first | (go_at_call 77; refine hN.mono ?_; rintro e w9 ⟨rfl, hgz⟩))
      refine ⟨rfl, ?_⟩
      rw [HT9.out, Gram.expect_no e9]
      exact ⟨rfl, (grown_some (World.grownBy_alloc w nod0 none) b).trans (hg9.trans hgz)⟩
    have hN9 := gexpect_yes b g cap rv T j8 0 ⟨#[116, 101, 108]⟩ _ hS9.pa e9 (hS9.pa.nextSees e9 (by decide))
    have HS9 := Lib.hid hS9
    clear hS9
    refine Lib.hid ?_
    go_wp2_with (first | (go_at_call 77; refine hN9.mono ?_; rintro e x9 ⟨rfl, hP9, hg9⟩; refine Hid.out ?_))
    have hS10 := HS9.out.on hg9 hP9
    have HT10 : Hid (R = Gram.PR.ok (⟨nx, [], l4, l6, l8, x.at_⟩ : Gram.Node) (j8 + 1)) := by show _ = _; rw [HT9.out, Gram.expect_yes e9]; rfl
    clear HT9 hN9 HS9 hP9 hg9
    clear z0 z1 z2 z3 z4 z5 zf
    have hgA := hS10.gr
    obtain ⟨y0, y1, y2, y3, y4, y5, yf⟩ := cells_6 (show x9.heap[w2.heap.size]? = some (.cells #[.string ⟨nx.toArray⟩, .slice none 0 0, .slice pa4 pn4 pc4, .slice pa6 pn6 pc6, .slice pa8 pn8 pc8, .int .i64 (x.at_ : Int)] 45 (0, 0)) from hS10.row)
    have HSE := Lib.hid hS10
    clear hS10
    refine Lib.hid ?_
    go_wp2_with (with_reducible refine hold_st 2 ?_)
    refine Lib.hid ?_
    refine wpList_store_gen rfl _ _ _ rfl w.heap.size _ rfl rfl 45 _ ((hgA.block w.heap.size (by simp) (by simp; omega)).trans (heap_alloc_new w nod0)) (by kernel_rfl) rfl (by simp [Value.oneCell']) ?_
    intro w7 hh7 hg7
    go_wp2
    (try simp only [Exit.inBlock, Exit.then])
    refine bodyPost_ret (results_cell_row rfl _ _ w.heap.size 45 _ (0, 0) _ rfl hh7 Tryz.underlying45 rfl (by kernel_rfl)) rfl ?_
    have hG : w.grownBy w7 (some b) := ((grown_some (World.grownBy_alloc w nod0 none) b).trans hgA).andThen hg7 (fun j e => .inl (by cases e; exact Nat.le_refl _))
    obtain ⟨hkk, hss⟩ := HSE.out.ends hg7 (by simp) (by omega)
    rw [HT10.out]
    refine ⟨_, rfl, ?_, HH.out.to hG hss HSE.out.pa.lt, hG⟩
    simpa only [nodeD, itemsD_map, List.map_nil] using hkk
  · have e8' : Gram.sees T (i + 1 + 1 + 1) (ByteArray.mk #[41]).data.toList = false := e8
    rw [e8'] at hSee
    have HS00 := Lib.hid hS00
    clear hS00
    refine Lib.hid ?_
    go_wp2_with (first | (go_at_call 76; refine hSee.mono ?_; rintro e x0 ⟨rfl, hg0⟩; refine Hid.out ?_))
    have hS1 := HS00.out.kept0 hg0
    have HT1 : Hid (R = (Gram.decls T f [] (i + 1 + 1 + 1)).bind fun ins j => (Gram.expect T j [41]).bind fun _ j => (Gram.expect T j [114, 101, 116, 117, 114, 110, 115]).bind fun _ j => (Gram.expect T j [40]).bind fun _ j => (Gram.decls T f [] j).bind fun outs j => (Gram.expect T j [41]).bind fun _ j => (Gram.locals T f j).bind fun ls j => (Gram.expect T j [108, 101, 116]).bind fun _ j => (Gram.need T j (Gram.seesItem T j) (Gram.items T f 0 [] j)).bind fun its j => (Gram.expect T j [116, 101, 108]).bind fun _ j => .ok (⟨nx, ins, outs, ls, its, x.at_⟩ : Gram.Node) j) := by show _ = _; rw [HRm.out, if_neg (by rw [e8]; decide)]
    clear HRm HS00 hSee hg0
    have hLf1 : (Gram.decls T f [] (i + 1 + 1 + 1)).isFuel = false := by rw [HT1.out] at hf; exact Gram.PR.bind_fuel hf
    have hL1 := gdecls_any b g cap rv T 0 f (i + 1 + 1 + 1) _ hS1.pa hLf1
    have HS1 := Lib.hid hS1
    clear hS1
    cases hr1 : Gram.decls T f [] (i + 1 + 1 + 1) with
    | fuel => rw [hr1] at hLf1; cases hLf1
    | bad a er =>
      rw [hr1] at hL1
      simp only [lPost] at hL1
      refine Lib.hid ?_
      go_wp2_with (first | (go_at_call 79; refine hL1.mono ?_; rintro e w9 ⟨rfl, hgz⟩))
      refine ⟨rfl, ?_⟩
      rw [HT1.out, hr1]
      exact ⟨rfl, (grown_some (World.grownBy_alloc w nod0 none) b).trans (HS1.out.gr.trans hgz)⟩
    | ok l1 j1 =>
    rw [hr1] at hL1
    simp only [lPost] at hL1
    have HT2 : Hid (R = (Gram.expect T j1 [41]).bind fun _ j => (Gram.expect T j [114, 101, 116, 117, 114, 110, 115]).bind fun _ j => (Gram.expect T j [40]).bind fun _ j => (Gram.decls T f [] j).bind fun outs j => (Gram.expect T j [41]).bind fun _ j => (Gram.locals T f j).bind fun ls j => (Gram.expect T j [108, 101, 116]).bind fun _ j => (Gram.need T j (Gram.seesItem T j) (Gram.items T f 0 [] j)).bind fun its j => (Gram.expect T j [116, 101, 108]).bind fun _ j => .ok (⟨nx, l1, outs, ls, its, x.at_⟩ : Gram.Node) j) := by show _ = _; rw [HT1.out, hr1]; rfl
    clear HT1 hr1 hLf1
    refine Lib.hid ?_
    go_wp2_with (first | (go_at_call 79; refine hL1.mono ?_; rintro e x1 ⟨v1, rfl, hk1, hP1, hg1⟩; obtain ⟨pa1, pn1, pc1, rfl⟩ := hk1.form; refine Hid.out ?_))
    have hSa := HS1.out.on hg1 hP1
    have hql1 := HS1.out.ql
    obtain ⟨z0, z1, z2, z3, z4, z5, zf⟩ := cells_6 (show x1.heap[w2.heap.size]? = some (.cells #[.string ⟨nx.toArray⟩, .slice none 0 0, .slice none 0 0, .slice none 0 0, .slice none 0 0, .int .i64 (x.at_ : Int)] 45 (0, 0)) from hSa.row)
    have hS2 : Ss (w.alloc nod0) (x1.setCell ⟨w2.heap.size, 1, none⟩ (.slice pa1 pn1 pc1)) b g cap rv T w2.heap.size j1 0 45 [.c (.string ⟨nx.toArray⟩), .l 139 5 (l1.map varD), .l 139 5 [], .l 139 5 [], .l 41 12 [], .c (.int .i64 (x.at_ : Int))] [.string ⟨nx.toArray⟩, .slice pa1 pn1 pc1, .slice none 0 0, .slice none 0 0, .slice none 0 0, .int .i64 (x.at_ : Int)] := hSa.set 1 (hk1.mono (Nat.succ_le_of_lt hql1)).rep
    clear hSa hL1 hk1 hP1 hg1 HS1
    rcases Bool.eq_false_or_eq_true (Gram.sees T j1 [41]) with e2 | e2
    case inr =>
      have hN := gexpect_no b g cap rv T j1 0 ⟨#[41]⟩ _ hS2.pa e2
      have hg9 := hS2.gr
      refine Lib.hid ?_
      go_wp2_with (first | (go_at_call 77; refine hN.mono ?_; rintro e w9 ⟨rfl, hgz⟩))
      refine ⟨rfl, ?_⟩
      rw [HT2.out, Gram.expect_no e2]
      exact ⟨rfl, (grown_some (World.grownBy_alloc w nod0 none) b).trans (hg9.trans hgz)⟩
    have hN2 := gexpect_yes b g cap rv T j1 0 ⟨#[41]⟩ _ hS2.pa e2 (hS2.pa.nextSees e2 (by decide))
    have HS2 := Lib.hid hS2
    clear hS2
    refine Lib.hid ?_
    go_wp2_with (first | (go_at_call 77; refine hN2.mono ?_; rintro e x2 ⟨rfl, hP2, hg2⟩; refine Hid.out ?_))
    have hS3 := HS2.out.on hg2 hP2
    have HT3 : Hid (R = (Gram.expect T (j1 + 1) [114, 101, 116, 117, 114, 110, 115]).bind fun _ j => (Gram.expect T j [40]).bind fun _ j => (Gram.decls T f [] j).bind fun outs j => (Gram.expect T j [41]).bind fun _ j => (Gram.locals T f j).bind fun ls j => (Gram.expect T j [108, 101, 116]).bind fun _ j => (Gram.need T j (Gram.seesItem T j) (Gram.items T f 0 [] j)).bind fun its j => (Gram.expect T j [116, 101, 108]).bind fun _ j => .ok (⟨nx, l1, outs, ls, its, x.at_⟩ : Gram.Node) j) := by show _ = _; rw [HT2.out, Gram.expect_yes e2]; rfl
    clear HT2 hN2 HS2 hP2 hg2
    clear z0 z1 z2 z3 z4 z5 zf
    rcases Bool.eq_false_or_eq_true (Gram.sees T (j1 + 1) [114, 101, 116, 117, 114, 110, 115]) with e3 | e3
    case inr =>
      have hN := gexpect_no b g cap rv T (j1 + 1) 0 ⟨#[114, 101, 116, 117, 114, 110, 115]⟩ _ hS3.pa e3
      have hg9 := hS3.gr
      refine Lib.hid ?_
      go_wp2_with (first | (go_at_call 77; refine hN.mono ?_; rintro e w9 ⟨rfl, hgz⟩))
      refine ⟨rfl, ?_⟩
      rw [HT3.out, Gram.expect_no e3]
      exact ⟨rfl, (grown_some (World.grownBy_alloc w nod0 none) b).trans (hg9.trans hgz)⟩
    have hN3 := gexpect_yes b g cap rv T (j1 + 1) 0 ⟨#[114, 101, 116, 117, 114, 110, 115]⟩ _ hS3.pa e3 (hS3.pa.nextSees e3 (by decide))
    have HS3 := Lib.hid hS3
    clear hS3
    refine Lib.hid ?_
    go_wp2_with (first | (go_at_call 77; refine hN3.mono ?_; rintro e x3 ⟨rfl, hP3, hg3⟩; refine Hid.out ?_))
    have hS4 := HS3.out.on hg3 hP3
    have HT4 : Hid (R = (Gram.expect T ((j1 + 1) + 1) [40]).bind fun _ j => (Gram.decls T f [] j).bind fun outs j => (Gram.expect T j [41]).bind fun _ j => (Gram.locals T f j).bind fun ls j => (Gram.expect T j [108, 101, 116]).bind fun _ j => (Gram.need T j (Gram.seesItem T j) (Gram.items T f 0 [] j)).bind fun its j => (Gram.expect T j [116, 101, 108]).bind fun _ j => .ok (⟨nx, l1, outs, ls, its, x.at_⟩ : Gram.Node) j) := by show _ = _; rw [HT3.out, Gram.expect_yes e3]; rfl
    clear HT3 hN3 HS3 hP3 hg3
    rcases Bool.eq_false_or_eq_true (Gram.sees T ((j1 + 1) + 1) [40]) with e4 | e4
    case inr =>
      have hN := gexpect_no b g cap rv T ((j1 + 1) + 1) 0 ⟨#[40]⟩ _ hS4.pa e4
      have hg9 := hS4.gr
      refine Lib.hid ?_
      go_wp2_with (first | (go_at_call 77; refine hN.mono ?_; rintro e w9 ⟨rfl, hgz⟩))
      refine ⟨rfl, ?_⟩
      rw [HT4.out, Gram.expect_no e4]
      exact ⟨rfl, (grown_some (World.grownBy_alloc w nod0 none) b).trans (hg9.trans hgz)⟩
    have hN4 := gexpect_yes b g cap rv T ((j1 + 1) + 1) 0 ⟨#[40]⟩ _ hS4.pa e4 (hS4.pa.nextSees e4 (by decide))
    have HS4 := Lib.hid hS4
    clear hS4
    refine Lib.hid ?_
    go_wp2_with (first | (go_at_call 77; refine hN4.mono ?_; rintro e x4 ⟨rfl, hP4, hg4⟩; refine Hid.out ?_))
    have hS5 := HS4.out.on hg4 hP4
    have HT5 : Hid (R = (Gram.decls T f [] (((j1 + 1) + 1) + 1)).bind fun outs j => (Gram.expect T j [41]).bind fun _ j => (Gram.locals T f j).bind fun ls j => (Gram.expect T j [108, 101, 116]).bind fun _ j => (Gram.need T j (Gram.seesItem T j) (Gram.items T f 0 [] j)).bind fun its j => (Gram.expect T j [116, 101, 108]).bind fun _ j => .ok (⟨nx, l1, outs, ls, its, x.at_⟩ : Gram.Node) j) := by show _ = _; rw [HT4.out, Gram.expect_yes e4]; rfl
    clear HT4 hN4 HS4 hP4 hg4
    have hLf5 : (Gram.decls T f [] (((j1 + 1) + 1) + 1)).isFuel = false := by rw [HT5.out] at hf; exact Gram.PR.bind_fuel hf
    have hL5 := gdecls_any b g cap rv T 0 f (((j1 + 1) + 1) + 1) _ hS5.pa hLf5
    have HS5 := Lib.hid hS5
    clear hS5
    cases hr5 : Gram.decls T f [] (((j1 + 1) + 1) + 1) with
    | fuel => rw [hr5] at hLf5; cases hLf5
    | bad a er =>
      rw [hr5] at hL5
      simp only [lPost] at hL5
      refine Lib.hid ?_
      go_wp2_with (first | (go_at_call 79; refine hL5.mono ?_; rintro e w9 ⟨rfl, hgz⟩))
      refine ⟨rfl, ?_⟩
      rw [HT5.out, hr5]
      exact ⟨rfl, (grown_some (World.grownBy_alloc w nod0 none) b).trans (HS5.out.gr.trans hgz)⟩
    | ok l5 j5 =>
    rw [hr5] at hL5
    simp only [lPost] at hL5
    have HT6 : Hid (R = (Gram.expect T j5 [41]).bind fun _ j => (Gram.locals T f j).bind fun ls j => (Gram.expect T j [108, 101, 116]).bind fun _ j => (Gram.need T j (Gram.seesItem T j) (Gram.items T f 0 [] j)).bind fun its j => (Gram.expect T j [116, 101, 108]).bind fun _ j => .ok (⟨nx, l1, l5, ls, its, x.at_⟩ : Gram.Node) j) := by show _ = _; rw [HT5.out, hr5]; rfl
    clear HT5 hr5 hLf5
    refine Lib.hid ?_
    go_wp2_with (first | (go_at_call 79; refine hL5.mono ?_; rintro e x5 ⟨v5, rfl, hk5, hP5, hg5⟩; obtain ⟨pa5, pn5, pc5, rfl⟩ := hk5.form; refine Hid.out ?_))
    have hSa := HS5.out.on hg5 hP5
    have hql5 := HS5.out.ql
    obtain ⟨z0, z1, z2, z3, z4, z5, zf⟩ := cells_6 (show x5.heap[w2.heap.size]? = some (.cells #[.string ⟨nx.toArray⟩, .slice pa1 pn1 pc1, .slice none 0 0, .slice none 0 0, .slice none 0 0, .int .i64 (x.at_ : Int)] 45 (0, 0)) from hSa.row)
    have hS6 : Ss (w.alloc nod0) (x5.setCell ⟨w2.heap.size, 2, none⟩ (.slice pa5 pn5 pc5)) b g cap rv T w2.heap.size j5 0 45 [.c (.string ⟨nx.toArray⟩), .l 139 5 (l1.map varD), .l 139 5 (l5.map varD), .l 139 5 [], .l 41 12 [], .c (.int .i64 (x.at_ : Int))] [.string ⟨nx.toArray⟩, .slice pa1 pn1 pc1, .slice pa5 pn5 pc5, .slice none 0 0, .slice none 0 0, .int .i64 (x.at_ : Int)] := hSa.set 2 (hk5.mono (Nat.succ_le_of_lt hql5)).rep
    clear hSa hL5 hk5 hP5 hg5 HS5
    rcases Bool.eq_false_or_eq_true (Gram.sees T j5 [41]) with e6 | e6
    case inr =>
      have hN := gexpect_no b g cap rv T j5 0 ⟨#[41]⟩ _ hS6.pa e6
      have hg9 := hS6.gr
      refine Lib.hid ?_
      go_wp2_with (first | (go_at_call 77; refine hN.mono ?_; rintro e w9 ⟨rfl, hgz⟩))
      refine ⟨rfl, ?_⟩
      rw [HT6.out, Gram.expect_no e6]
      exact ⟨rfl, (grown_some (World.grownBy_alloc w nod0 none) b).trans (hg9.trans hgz)⟩
    have hN6 := gexpect_yes b g cap rv T j5 0 ⟨#[41]⟩ _ hS6.pa e6 (hS6.pa.nextSees e6 (by decide))
    have HS6 := Lib.hid hS6
    clear hS6
    refine Lib.hid ?_
    go_wp2_with (first | (go_at_call 77; refine hN6.mono ?_; rintro e x6 ⟨rfl, hP6, hg6⟩; refine Hid.out ?_))
    have hS7 := HS6.out.on hg6 hP6
    have HT7 : Hid (R = (Gram.locals T f (j5 + 1)).bind fun ls j => (Gram.expect T j [108, 101, 116]).bind fun _ j => (Gram.need T j (Gram.seesItem T j) (Gram.items T f 0 [] j)).bind fun its j => (Gram.expect T j [116, 101, 108]).bind fun _ j => .ok (⟨nx, l1, l5, ls, its, x.at_⟩ : Gram.Node) j) := by show _ = _; rw [HT6.out, Gram.expect_yes e6]; rfl
    clear HT6 hN6 HS6 hP6 hg6
    clear z0 z1 z2 z3 z4 z5 zf
    have hLf7 : (Gram.locals T f (j5 + 1)).isFuel = false := by rw [HT7.out] at hf; exact Gram.PR.bind_fuel hf
    have hL7 := glocals_any b g cap rv T 0 f (j5 + 1) _ hS7.pa hLf7
    have HS7 := Lib.hid hS7
    clear hS7
    cases hr7 : Gram.locals T f (j5 + 1) with
    | fuel => rw [hr7] at hLf7; cases hLf7
    | bad a er =>
      rw [hr7] at hL7
      simp only [lPost] at hL7
      refine Lib.hid ?_
      go_wp2_with (first | (go_at_call 80; refine hL7.mono ?_; rintro e w9 ⟨rfl, hgz⟩))
      refine ⟨rfl, ?_⟩
      rw [HT7.out, hr7]
      exact ⟨rfl, (grown_some (World.grownBy_alloc w nod0 none) b).trans (HS7.out.gr.trans hgz)⟩
    | ok l7 j7 =>
    rw [hr7] at hL7
    simp only [lPost] at hL7
    have HT8 : Hid (R = (Gram.expect T j7 [108, 101, 116]).bind fun _ j => (Gram.need T j (Gram.seesItem T j) (Gram.items T f 0 [] j)).bind fun its j => (Gram.expect T j [116, 101, 108]).bind fun _ j => .ok (⟨nx, l1, l5, l7, its, x.at_⟩ : Gram.Node) j) := by show _ = _; rw [HT7.out, hr7]; rfl
    clear HT7 hr7 hLf7
    refine Lib.hid ?_
    go_wp2_with (first | (go_at_call 80; refine hL7.mono ?_; rintro e x7 ⟨v7, rfl, hk7, hP7, hg7⟩; obtain ⟨pa7, pn7, pc7, rfl⟩ := hk7.form; refine Hid.out ?_))
    have hSa := HS7.out.on hg7 hP7
    have hql7 := HS7.out.ql
    obtain ⟨z0, z1, z2, z3, z4, z5, zf⟩ := cells_6 (show x7.heap[w2.heap.size]? = some (.cells #[.string ⟨nx.toArray⟩, .slice pa1 pn1 pc1, .slice pa5 pn5 pc5, .slice none 0 0, .slice none 0 0, .int .i64 (x.at_ : Int)] 45 (0, 0)) from hSa.row)
    have hS8 : Ss (w.alloc nod0) (x7.setCell ⟨w2.heap.size, 3, none⟩ (.slice pa7 pn7 pc7)) b g cap rv T w2.heap.size j7 0 45 [.c (.string ⟨nx.toArray⟩), .l 139 5 (l1.map varD), .l 139 5 (l5.map varD), .l 139 5 (l7.map varD), .l 41 12 [], .c (.int .i64 (x.at_ : Int))] [.string ⟨nx.toArray⟩, .slice pa1 pn1 pc1, .slice pa5 pn5 pc5, .slice pa7 pn7 pc7, .slice none 0 0, .int .i64 (x.at_ : Int)] := hSa.set 3 (hk7.mono (Nat.succ_le_of_lt hql7)).rep
    clear hSa hL7 hk7 hP7 hg7 HS7
    rcases Bool.eq_false_or_eq_true (Gram.sees T j7 [108, 101, 116]) with e8 | e8
    case inr =>
      have hN := gexpect_no b g cap rv T j7 0 ⟨#[108, 101, 116]⟩ _ hS8.pa e8
      have hg9 := hS8.gr
      refine Lib.hid ?_
      go_wp2_with (first | (go_at_call 77; refine hN.mono ?_; rintro e w9 ⟨rfl, hgz⟩))
      refine ⟨rfl, ?_⟩
      rw [HT8.out, Gram.expect_no e8]
      exact ⟨rfl, (grown_some (World.grownBy_alloc w nod0 none) b).trans (hg9.trans hgz)⟩
    have hN8 := gexpect_yes b g cap rv T j7 0 ⟨#[108, 101, 116]⟩ _ hS8.pa e8 (hS8.pa.nextSees e8 (by decide))
    have HS8 := Lib.hid hS8
    clear hS8
    refine Lib.hid ?_
    go_wp2_with (first | (go_at_call 77; refine hN8.mono ?_; rintro e x8 ⟨rfl, hP8, hg8⟩; refine Hid.out ?_))
    have hS9 := HS8.out.on hg8 hP8
    have HT9 : Hid (R = (Gram.need T (j7 + 1) (Gram.seesItem T (j7 + 1)) (Gram.items T f 0 [] (j7 + 1))).bind fun its j => (Gram.expect T j [116, 101, 108]).bind fun _ j => .ok (⟨nx, l1, l5, l7, its, x.at_⟩ : Gram.Node) j) := by show _ = _; rw [HT8.out, Gram.expect_yes e8]; rfl
    clear HT8 hN8 HS8 hP8 hg8
    clear z0 z1 z2 z3 z4 z5 zf
    have hLf9 : (Gram.need T (j7 + 1) (Gram.seesItem T (j7 + 1)) (Gram.items T f 0 [] (j7 + 1))).isFuel = false := by rw [HT9.out] at hf; exact Gram.PR.bind_fuel hf
    have hL9 := gitems_any b g cap rv T 0 f (fun f' h i w hp _ hf => (cstate_all b g cap rv T f').2 0 i w hp hf) (j7 + 1) _ hS9.pa hLf9
    have HS9 := Lib.hid hS9
    clear hS9
    cases hr9 : Gram.need T (j7 + 1) (Gram.seesItem T (j7 + 1)) (Gram.items T f 0 [] (j7 + 1)) with
    | fuel => rw [hr9] at hLf9; cases hLf9
    | bad a er =>
      rw [hr9] at hL9
      simp only [lPost] at hL9
      refine Lib.hid ?_
      go_wp2_with (first | (go_at_call 81; refine hL9.mono ?_; rintro e w9 ⟨rfl, hgz⟩))
      refine ⟨rfl, ?_⟩
      rw [HT9.out, hr9]
      exact ⟨rfl, (grown_some (World.grownBy_alloc w nod0 none) b).trans (HS9.out.gr.trans hgz)⟩
    | ok l9 j9 =>
    rw [hr9] at hL9
    simp only [lPost] at hL9
    have HT10 : Hid (R = (Gram.expect T j9 [116, 101, 108]).bind fun _ j => .ok (⟨nx, l1, l5, l7, l9, x.at_⟩ : Gram.Node) j) := by show _ = _; rw [HT9.out, hr9]; rfl
    clear HT9 hr9 hLf9
    refine Lib.hid ?_
    go_wp2_with (first | (go_at_call 81; refine hL9.mono ?_; rintro e x9 ⟨v9, rfl, hk9, hP9, hg9⟩; obtain ⟨pa9, pn9, pc9, rfl⟩ := hk9.form; refine Hid.out ?_))
    have hSa := HS9.out.on hg9 hP9
    have hql9 := HS9.out.ql
    obtain ⟨z0, z1, z2, z3, z4, z5, zf⟩ := cells_6 (show x9.heap[w2.heap.size]? = some (.cells #[.string ⟨nx.toArray⟩, .slice pa1 pn1 pc1, .slice pa5 pn5 pc5, .slice pa7 pn7 pc7, .slice none 0 0, .int .i64 (x.at_ : Int)] 45 (0, 0)) from hSa.row)
    have hS10 : Ss (w.alloc nod0) (x9.setCell ⟨w2.heap.size, 4, none⟩ (.slice pa9 pn9 pc9)) b g cap rv T w2.heap.size j9 0 45 [.c (.string ⟨nx.toArray⟩), .l 139 5 (l1.map varD), .l 139 5 (l5.map varD), .l 139 5 (l7.map varD), .l 41 12 (l9.map itemD), .c (.int .i64 (x.at_ : Int))] [.string ⟨nx.toArray⟩, .slice pa1 pn1 pc1, .slice pa5 pn5 pc5, .slice pa7 pn7 pc7, .slice pa9 pn9 pc9, .int .i64 (x.at_ : Int)] := hSa.set 4 (hk9.mono (Nat.succ_le_of_lt hql9)).rep
    clear hSa hL9 hk9 hP9 hg9 HS9
    rcases Bool.eq_false_or_eq_true (Gram.sees T j9 [116, 101, 108]) with e10 | e10
    case inr =>
      have hN := gexpect_no b g cap rv T j9 0 ⟨#[116, 101, 108]⟩ _ hS10.pa e10
      have hg9 := hS10.gr
      refine Lib.hid ?_
      go_wp2_with (first | (go_at_call 77; refine hN.mono ?_; rintro e w9 ⟨rfl, hgz⟩))
      refine ⟨rfl, ?_⟩
      rw [HT10.out, Gram.expect_no e10]
      exact ⟨rfl, (grown_some (World.grownBy_alloc w nod0 none) b).trans (hg9.trans hgz)⟩
    have hN10 := gexpect_yes b g cap rv T j9 0 ⟨#[116, 101, 108]⟩ _ hS10.pa e10 (hS10.pa.nextSees e10 (by decide))
    have HS10 := Lib.hid hS10
    clear hS10
    refine Lib.hid ?_
    go_wp2_with (first | (go_at_call 77; refine hN10.mono ?_; rintro e x10 ⟨rfl, hP10, hg10⟩; refine Hid.out ?_))
    have hS11 := HS10.out.on hg10 hP10
    have HT11 : Hid (R = Gram.PR.ok (⟨nx, l1, l5, l7, l9, x.at_⟩ : Gram.Node) (j9 + 1)) := by show _ = _; rw [HT10.out, Gram.expect_yes e10]; rfl
    clear HT10 hN10 HS10 hP10 hg10
    clear z0 z1 z2 z3 z4 z5 zf
    have hgA := hS11.gr
    obtain ⟨y0, y1, y2, y3, y4, y5, yf⟩ := cells_6 (show x10.heap[w2.heap.size]? = some (.cells #[.string ⟨nx.toArray⟩, .slice pa1 pn1 pc1, .slice pa5 pn5 pc5, .slice pa7 pn7 pc7, .slice pa9 pn9 pc9, .int .i64 (x.at_ : Int)] 45 (0, 0)) from hS11.row)
    have HSE := Lib.hid hS11
    clear hS11
    refine Lib.hid ?_
    go_wp2_with (with_reducible refine hold_st 2 ?_)
    refine Lib.hid ?_
    refine wpList_store_gen rfl _ _ _ rfl w.heap.size _ rfl rfl 45 _ ((hgA.block w.heap.size (by simp) (by simp; omega)).trans (heap_alloc_new w nod0)) (by kernel_rfl) rfl (by simp [Value.oneCell']) ?_
    intro w7 hh7 hg7
    go_wp2
    (try simp only [Exit.inBlock, Exit.then])
    refine bodyPost_ret (results_cell_row rfl _ _ w.heap.size 45 _ (0, 0) _ rfl hh7 Tryz.underlying45 rfl (by kernel_rfl)) rfl ?_
    have hG : w.grownBy w7 (some b) := ((grown_some (World.grownBy_alloc w nod0 none) b).trans hgA).andThen hg7 (fun j e => .inl (by cases e; exact Nat.le_refl _))
    obtain ⟨hkk, hss⟩ := HSE.out.ends hg7 (by simp) (by omega)
    rw [HT11.out]
    refine ⟨_, rfl, ?_, HH.out.to hG hss HSE.out.pa.lt, hG⟩
    simpa only [nodeD, itemsD_map] using hkk

set_option maxHeartbeats 6400000 in
set_option maxRecDepth 20000 in
theorem gprogram_any (f : Nat) (w : World) (h : Pa w b g cap rv T 0 0) (hf : (Gram.program T f).isFuel = false) :
    Calls Tryz.prog 19 #[.pointer (some ⟨b, 0, none⟩)] w fun e w' => pgPost w b g cap rv T (Gram.program T f) e w' := by
  have hbw := h.bl
  have hP0 := h.alloc prg0
  obtain ⟨R, hR⟩ : ∃ R, R = Gram.program T f := ⟨_, rfl⟩
  rw [← hR] at hf ⊢
  unfold Gram.program at hR
  have HR := Lib.hid hR
  clear hR
  have hNf : (Gram.nodes T f [] 0).isFuel = false := by rw [HR.out] at hf; exact Gram.PR.bind_fuel hf
  have hM := gmany_nodes b g cap rv T 0 f (fun f' _ i w hp hs hf => gnode_any b g cap rv T f' i w hp hs hf) 0 _ hP0 hNf
  have hmf := makeFunc_run
  have hy := fun wx => gneed_yes b wx
  have HH := Lib.hid h
  clear h
  cases hr : Gram.nodes T f [] 0 with
  | fuel => rw [hr] at hNf; cases hNf
  | bad a er =>
    rw [hr] at hM
    simp only [lPost] at hM
    go_enter Tryz.func19, Tryz.ntmps19
    go_wp2_with (first | (go_at_call 33; refine hM.mono ?_; rintro e w1 ⟨rfl, hg1⟩))
    refine ⟨rfl, ?_⟩
    rw [HR.out, hr]
    exact ⟨rfl, (grown_some (World.grownBy_alloc w prg0 none) b).trans hg1⟩
  | ok l j =>
  rw [hr] at hM
  simp only [lPost] at hM
  have HR1 : Hid (R = Gram.need T j ((Gram.tk T j).kind == 5) (.ok l j)) := by show _ = _; rw [HR.out, hr]; rfl
  clear HR hr hNf
  go_enter Tryz.func19, Tryz.ntmps19
  go_wp2_with (first | (go_at_call 33; refine hM.mono ?_; rintro e w1 ⟨v1, rfl, hk1, hP1, hg1⟩; obtain ⟨va, vn, vc, rfl⟩ := hk1.form; refine Hid.out ?_))
  have hs1 := hg1.size
  rw [World.size_alloc] at hs1
  have hnx := gnext_any b g cap rv T j 0 w1 hP1
  have hno := fun wx (hx : w1.grownBy wx none) => gneed_no b g cap rv T j 0 wx (hP1.kept hx)
  rcases Bool.eq_false_or_eq_true ((Gram.tk T j).kind == 5) with hk | hk
  case inr =>
    have HR2 : Hid (R = .bad ((Gram.tk T j).at_ : Int) 12) := by show _ = _; rw [HR1.out]; unfold Gram.need Gram.fail; rw [if_neg (by rw [hk]; decide)]
    clear HR1
    generalize Gram.tk T j = x at hnx hk hno HR2
    have hfk := fldKind x
    refine Lib.hid ?_
    go_wp2_with (first | (go_at_call 37; refine hnx.mono ?_; rintro e w2 ⟨rfl, hg2⟩) | (go_at_call 36; refine (hno _ hg2).mono ?_; rintro e w3 ⟨rfl, hg3⟩))
    refine ⟨rfl, ?_⟩
    rw [HR2.out]
    exact ⟨rfl, (grown_some (World.grownBy_alloc w prg0 none) b).trans ((hg1.trans (grown_some hg2 b)).trans hg3)⟩
  have HR2 : Hid (R = .ok l j) := by show _ = _; rw [HR1.out]; unfold Gram.need; rw [if_pos hk]
  clear HR1 hno
  generalize Gram.tk T j = x at hnx hk
  have hfk := fldKind x
  refine Lib.hid ?_
  go_wp2_with (first | (go_at_call 37; refine hnx.mono ?_; rintro e w2 ⟨rfl, hg2⟩) | (go_at_call 36; refine (hy _).mono ?_; rintro e w9 ⟨rfl, hw9⟩; rw [hw9]; clear hw9) | (with_reducible refine hold_st 2 ?_))
  have hgA : (w.alloc prg0).grownBy w2 (some b) := hg1.trans (grown_some hg2 b)
  refine Lib.hid ?_
  refine wpList_store_gen rfl _ _ _ rfl w.heap.size _ rfl rfl 32 _ ((hgA.block w.heap.size (by simp) (by simp; omega)).trans (heap_alloc_new w prg0)) (by kernel_rfl) rfl (by simp [Value.oneCell']) ?_
  intro w7 hh7 hg7
  go_wp2
  (try simp only [Exit.inBlock, Exit.then])
  refine bodyPost_ret (results_cell_row rfl _ _ w.heap.size 32 _ (0, 0) _ rfl hh7 Tryz.underlying32 rfl (by kernel_rfl)) rfl ?_
  have hG : w.grownBy w7 (some b) := ((grown_some (World.grownBy_alloc w prg0 none) b).trans hgA).andThen hg7 (fun j e => .inl (by cases e; exact Nat.le_refl _))
  rw [HR2.out]
  exact ⟨_, rfl, ((hk1.kept0 hg2).keptB hg7 (by simp)).mono (by simp), HH.out.to hG ((hP1.st.kept hg2 (by simp)).kept hg7 (by simp; omega)) hP1.lt, hG⟩
end

end Go.Proofs.YtachmiajldeakaaGreatDoor
