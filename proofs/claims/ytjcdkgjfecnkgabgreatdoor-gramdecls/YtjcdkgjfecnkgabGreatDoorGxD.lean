/- GramDecls' walk. -/
import Derived.Test.YtjcdkgjfecnkgabGreatDoorGxB
import Derived.Test.YtjcdkgjfecnkgabGreatDoorGxC
import Derived.Test.YtjcdkgjfecnkgabGreatDoorMgK
namespace Go.Proofs.YtjcdkgjfecnkgabGreatDoor
open Go.RowKit Go.Maps Go.WideMaps

theorem dVar_len (x : Gram.Var) : (varD x).length = 5 := rfl
theorem dEdge_len (x : Gram.Edge) : (edgeD x).length = 2 := rfl
theorem dNode_len (x : Gram.Node) : (nodeD x).length = 6 := rfl
theorem dMap_at {α β : Type} (F : α → β) (l : List α) (t : Nat) {k : α} (h : l[t]? = some k) : (l.map F)[t]? = some (F k) := by rw [List.getElem?_map, h]; rfl
/-- the lists of inputs and of locals of a program's one node -/
theorem dcNode {W : World} {N : Gram.Node} {a : Option Addr} {L c : Nat} (h : RepC W 0 [] (.l 34 6 ([N].map nodeD)) (.slice a L c)) :
    ∃ g v1 v3, a = some ⟨g, 0, none⟩ ∧ L = 1 ∧ W.cell? ⟨g, 1, none⟩ = some v1 ∧ W.cell? ⟨g, 3, none⟩ = some v3 ∧ RepC W 0 [] (.l 39 5 (N.ins.map varD)) v1 ∧ RepC W 0 [] (.l 39 5 (N.locals.map varD)) v3 := by
  obtain ⟨g, cc, e⟩ := h.lies (by simp)
  cases e
  obtain ⟨vs, hv, q⟩ := h.rowAt (rows_map dNode_len _) 0 rfl
  obtain ⟨x1, rfl, h_1⟩ := RepRow.cInv hv
  obtain ⟨b1, m1, k1, x2, rfl, hI, h_2⟩ := h_1.lInv
  obtain ⟨b2, m2, k2, x3, rfl, _, h_3⟩ := h_2.lInv
  obtain ⟨b3, m3, k3, x4, rfl, hL, h_4⟩ := h_3.lInv
  exact ⟨g, _, _, rfl, rfl, q 1 _ rfl, q 3 _ rfl, hI, hL⟩
/-- one local's clock -/
theorem dcClock {W : World} {g L c i : Nat} {ls : List Gram.Var} {x : Gram.Var} (h : RepC W 0 [] (.l 39 5 (ls.map varD)) (.slice (some ⟨g, 0, none⟩) L c)) (hi : ls[i]? = some x) (hx : x.clock = Gram.clk) :
    ∃ b d, W.cell? ⟨g, i * 5 + 3, none⟩ = some (.slice (some ⟨b, 0, none⟩) 2 d) ∧ W.cell? ⟨b, 0, none⟩ = some (.string ⟨#[99]⟩) ∧ W.cell? ⟨b, 1, none⟩ = some (.bool true) ∧ W.cell? ⟨b, 2, none⟩ = some (.string ⟨#[100]⟩) ∧ W.cell? ⟨b, 3, none⟩ = some (.bool false) := by
  obtain ⟨vs, hv, q⟩ := h.rowAt (rows_map dVar_len _) i (dMap_at varD ls i hi)
  obtain ⟨nm, tk, tl, cl, at_⟩ := x
  simp only at hx
  subst hx
  obtain ⟨r1, rfl, h_1⟩ := RepRow.cInv hv
  obtain ⟨r2, rfl, h_2⟩ := h_1.cInv
  obtain ⟨r3, rfl, h_3⟩ := h_2.cInv
  obtain ⟨b1, m1, d1, r4, rfl, hc, h_4⟩ := h_3.lInv
  have q3 := q 3 _ rfl
  obtain ⟨b, cc, e⟩ := hc.lies (by simp [Gram.clk])
  cases e
  obtain ⟨vs0, w0, q0⟩ := hc.rowAt (rows_map dEdge_len _) 0 rfl
  obtain ⟨vs1, w1, q1⟩ := hc.rowAt (rows_map dEdge_len _) 1 rfl
  obtain rfl := edgeInv w0
  obtain rfl := edgeInv w1
  exact ⟨b, _, q3, q0 0 _ rfl, q0 1 _ rfl, q1 0 _ rfl, q1 1 _ rfl⟩
/-- the first names -/
def upTo : Nat → List UInt8
  | 0 => Lex.nodeL
  | t + 1 => Lex.nodeL ++ Lex.namesTo t
theorem upTo_len (t : Nat) (h : t ≤ 30) : (upTo t).length ≤ 200 := by
  cases t with
  | zero => decide
  | succ t =>
    have h1 := (Lex.namesTo_len t (by omega)).2
    have h2 : Lex.nodeL.length = 7 := rfl
    show (Lex.nodeL ++ Lex.namesTo t).length ≤ 200
    rw [List.length_append, h2]; omega
theorem ba_len (x : ByteArray) : x.data.toList.length = x.size := by simp
theorem ba_app (x y : ByteArray) : (x ++ y).data.toList = x.data.toList ++ y.data.toList := by simp

set_option maxHeartbeats 3200000 in
set_option maxRecDepth 20000 in
theorem gx_out (n k z : Int) (w : World) (hl : LaidG w) (hn : n < 1 ∨ 30 < n ∨ k < 1 ∨ 9 < k ∨ z < 0 ∨ 99 < z) : Calls Tryz.prog 4 #[.int .i64 n, .int .i64 k, .int .i64 z] w fun e w' => e = .returned (.bool true) ∧ w.grownBy w' none := by
  have hal := alive_any w hl
  go_enter Tryz.func4, Tryz.ntmps4
  go_wp2_with (go_at_call 6; refine hal.mono ?_; rintro e w1 ⟨rfl, hg1⟩; refine Hid.out ?_)
  clear hal
  have HG := Lib.hid hg1
  clear hg1
  refine Lib.hid ?_
  go_wp2
  all_goals (go_ret; exact ⟨rfl, HG.out⟩)

theorem bne_t2 {a c : Int} (h : a = c) : (a != c) = false := by simp [h]
/-- what is kept while a round's look goes on -/
theorem dcOn {w0 W W' : World} {P : Nat} {a b c d e : Value} (h : W.cell? ⟨P, 0, none⟩ = some a ∧ W.cell? ⟨P, 1, none⟩ = some b ∧ W.cell? ⟨P, 2, none⟩ = some c ∧ W.cell? ⟨P, 3, none⟩ = some d ∧ W.cell? ⟨P, 4, none⟩ = some e ∧ w0.grownBy W none) (hg : W.grownBy W' none) : W'.cell? ⟨P, 0, none⟩ = some a ∧ W'.cell? ⟨P, 1, none⟩ = some b ∧ W'.cell? ⟨P, 2, none⟩ = some c ∧ W'.cell? ⟨P, 3, none⟩ = some d ∧ W'.cell? ⟨P, 4, none⟩ = some e ∧ w0.grownBy W' none :=
  ⟨hg.cell h.1 (by simp), hg.cell h.2.1 (by simp), hg.cell h.2.2.1 (by simp), hg.cell h.2.2.2.1 (by simp), hg.cell h.2.2.2.2.1 (by simp), h.2.2.2.2.2.trans hg⟩
theorem dcDrew {w0 W : World} {P : Nat} {a b c d e : Value} (h : W.cell? ⟨P, 0, none⟩ = some a ∧ W.cell? ⟨P, 1, none⟩ = some b ∧ W.cell? ⟨P, 2, none⟩ = some c ∧ W.cell? ⟨P, 3, none⟩ = some d ∧ W.cell? ⟨P, 4, none⟩ = some e ∧ w0.grownBy W none) : W.drew.cell? ⟨P, 0, none⟩ = some a ∧ W.drew.cell? ⟨P, 1, none⟩ = some b ∧ W.drew.cell? ⟨P, 2, none⟩ = some c ∧ W.drew.cell? ⟨P, 3, none⟩ = some d ∧ W.drew.cell? ⟨P, 4, none⟩ = some e ∧ w0.grownBy W.drew none := dcOn h ⟨rfl, rfl, rfl, Nat.le_refl _, fun _ _ _ => rfl⟩

/-- one input -/
theorem dcVar {W : World} {g L c i : Nat} {ls : List Gram.Var} {nm : Gram.B} {tk tl at_ : Int} (h : RepC W 0 [] (.l 39 5 (ls.map varD)) (.slice (some ⟨g, 0, none⟩) L c)) (hi : ls[i]? = some ⟨nm, tk, tl, [], at_⟩) :
    ∃ ca cc, W.cell? ⟨g, i * 5, none⟩ = some (.string ⟨nm.toArray⟩) ∧ W.cell? ⟨g, i * 5 + 1, none⟩ = some (.int .i64 tk) ∧ W.cell? ⟨g, i * 5 + 2, none⟩ = some (.int .i64 tl) ∧ W.cell? ⟨g, i * 5 + 3, none⟩ = some (.slice ca 0 cc) ∧ W.cell? ⟨g, i * 5 + 4, none⟩ = some (.int .i64 at_) := by
  obtain ⟨vs, hv, q⟩ := h.rowAt (rows_map dVar_len _) i (dMap_at varD ls i hi)
  obtain ⟨r1, rfl, h_1⟩ := RepRow.cInv hv
  obtain ⟨r2, rfl, h_2⟩ := h_1.cInv
  obtain ⟨r3, rfl, h_3⟩ := h_2.cInv
  obtain ⟨b1, m1, d1, r4, rfl, hc, h_4⟩ := h_3.lInv
  obtain ⟨r5, rfl, h_5⟩ := h_4.cInv
  obtain ⟨_, _, e⟩ := hc.len
  cases e
  exact ⟨b1, d1, q 0 _ rfl, q 1 _ rfl, q 2 _ rfl, q 3 _ rfl, q 4 _ rfl⟩
theorem ba_eq {x : ByteArray} {l : List UInt8} (h : x.data.toList = l) : x = ⟨l.toArray⟩ := by
  cases x with
  | mk d => simp at h; subst h; simp
theorem plc_le : ∀ t, t ≤ 30 → Lex.plc t ≤ 7 + 5 * t
  | 0, _ => by decide
  | t + 1, h => by
    have h1 := plc_le t (by omega)
    have h2 := (Lex.name_facts ⟨t, by omega⟩).2.2.1
    simp only at h2
    simp only [Lex.plc]
    omega

set_option maxHeartbeats 6400000 in
set_option maxRecDepth 20000 in
theorem gx_in (m k z : Nat) (hm : m < 30) (hk1 : 1 ≤ k) (hk9 : k ≤ 9) (hz : z < 100) (w : World) (hl : LaidG w) : Calls Tryz.prog 4 #[.int .i64 ((m + 1 : Nat) : Int), .int .i64 (k : Int), .int .i64 (z : Int)] w fun e w' => e = .returned (.bool true) ∧ w.grownBy w' none := by
  obtain ⟨n, hn⟩ : ∃ n, n = m + 1 := ⟨_, rfl⟩
  rw [← hn]
  have d1 : decide ((n : Int) < 1) = false := by rw [decide_eq_false_iff_not]; omega
  have d2 : decide ((30 : Int) < n) = false := by rw [decide_eq_false_iff_not]; omega
  have d3 : decide ((k : Int) < 1) = false := by rw [decide_eq_false_iff_not]; omega
  have d4 : decide ((9 : Int) < k) = false := by rw [decide_eq_false_iff_not]; omega
  have d5 : decide ((z : Int) < 0) = false := by rw [decide_eq_false_iff_not]; omega
  have d6 : decide ((99 : Int) < z) = false := by rw [decide_eq_false_iff_not]; omega
  have hal := alive_any w hl
  have hn30 : n ≤ 30 := by omega
  have HN := Lib.hid hn
  clear hn
  go_enter Tryz.func4, Tryz.ntmps4
  go_wp2_with (go_at_call 6; refine hal.mono ?_; rintro e w1 ⟨rfl, hg1⟩; refine Hid.out ?_)
  have hl1 := hl.on hg1
  clear hal
  have HG := Lib.hid hg1
  clear hg1
  refine Lib.hid ?_
  go_wp2
  go_loop [9, 10] (fun sv iv => ∃ (t : Nat) (A : ByteArray), t ≤ n ∧ iv = .int .i64 (t : Int) ∧ sv = .string A ∧ Hid (A.data.toList = upTo t)) (fun _ i => n - (intOf i).toNat)
  case atStart => exact ⟨0, _, Nat.zero_le _, rfl, rfl, Lib.hid rfl⟩
  case round =>
    obtain ⟨t, A, ht, rfl, rfl, HA⟩ := hrel
    have hA : A.size ≤ 200 := by rw [← ba_len, HA.out]; exact upTo_len t (by omega)
    by_cases hlt : t < n
    · have hD := fun W => rdig_any t (by omega) W
      by_cases h0 : t = 0
      · subst h0
        go_wp2_with (go_at_call 10; refine (hD _).mono ?_; rintro e w' ⟨⟨x, rfl, hx⟩, hw'⟩; subst hw'; refine Hid.out ?_)
        have hxs : x.size ≤ 2 := by rw [← ba_len, hx]; decide
        have HX := Lib.hid hx
        clear hx hD
        refine Lib.hid ?_
        go_wp2
        refine ⟨⟨1, _, by omega, by go_num, rfl, Lib.hid ?_⟩, by simp [intOf]; omega⟩
        rw [ba_app, ba_app, HA.out, HX.out]
        rfl
      · have hgt : decide ((0 : Int) < t) = true := by rw [decide_eq_true_iff]; omega
        go_wp2_with (go_at_call 10; refine (hD _).mono ?_; rintro e w' ⟨⟨x, rfl, hx⟩, hw'⟩; subst hw'; refine Hid.out ?_)
        have hxs : x.size ≤ 2 := by rw [← ba_len, hx]; exact (Lex.dig_facts ⟨t, by omega⟩).2.2.1
        have HX := Lib.hid hx
        clear hx hD
        refine Lib.hid ?_
        go_wp2
        refine ⟨⟨t + 1, _, by omega, by go_num, rfl, Lib.hid ?_⟩, by simp [intOf]; omega⟩
        rw [ba_app, ba_app, ba_app, HA.out, HX.out]
        obtain ⟨u, rfl⟩ : ∃ u, t = u + 1 := ⟨t - 1, by omega⟩
        simp [upTo, Lex.namesTo, Lex.nameL]
    · have e : n = t := by omega
      subst e
      have hK := fun W => rkind_any k hk1 hk9 W
      go_wp2_with (go_at_call 11; refine (hK _).mono ?_; rintro e w2 ⟨rfl, hg2⟩; refine Hid.out ?_)
      obtain ⟨kb, hkb⟩ : ∃ kb : ByteArray, kb = ⟨(Lex.kindN k).toArray⟩ := ⟨_, rfl⟩
      rw [← hkb]
      have hkl : kb.data.toList = Lex.kindN k := by rw [hkb]
      have hks : kb.size ≤ 4 := by rw [← ba_len, hkl]; exact Lex.kindN_len ⟨k, by omega⟩
      clear hkb hK
      have HKL := Lib.hid hkl
      clear hkl
      have HG2 := Lib.hid (HG.out.trans hg2)
      have hl2 := hl1.on hg2
      clear hg2
      by_cases h0 : z = 0
      · have HZ := Lib.hid h0
        have hgt : decide ((0 : Int) < z) = false := by rw [decide_eq_false_iff_not]; omega
        have hgt2 : ¬ 0 < z := by omega
        have hgt3 : ¬ (0 : Int) < z := by omega
        clear h0
        have HT : Hid (∀ TX : ByteArray, TX = A ++ ⟨#[58, 32]⟩ ++ kb ++ ⟨Lex.sufL.toArray⟩ → TX.data.toList = Lex.declL m k z) := Lib.hid (fun TX e => by
          rw [e, ba_app, ba_app, ba_app, HA.out, HKL.out, HN.out, HZ.out]
          simp [upTo, Lex.declL, Lex.tyL])
        refine Lib.hid ?_
        obtain ⟨o, its, ap, bp, cp, dp, hpp⟩ := Gram.parse_decl m k z hm hk1 hk9 hz
        have hall : ∀ TX : ByteArray, TX.data.toList = Lex.declL m k z → Gram.parse TX.data.toList = .ok _ := fun TX e => by rw [e]; exact hpp
        go_wp2_with (go_at_call 7; refine (gparse_ok (hall _ (HT.out _ rfl)) _ hl2).mono ?_; rintro e w3 ⟨v1, rfl, kk, hg3⟩; obtain ⟨va, vn, vc, rfl⟩ := kk.form; refine Hid.out ?_)
        have hA3 := World.grownBy_alloc w3 (.cells #[.slice va vn vc] 25) none
        have HG3 := Lib.hid ((HG2.out.trans hg3).trans hA3)
        have z0 := cell_alloc_zero w3 (.slice va vn vc) 25
        have x1 := RepC.mono (Nat.zero_le _) (RepC.kept hA3 (fun k e => by cases e) kk)
        obtain ⟨g, v1, v3, rfl, rfl, q1, q3, kI, kL⟩ := dcNode x1
        simp only at kI kL
        obtain ⟨h, ci, e1⟩ := kI.lies (by simp)
        obtain ⟨l, cl, e3⟩ := kL.lies (by simp)
        subst e1
        subst e3
        obtain ⟨c1, e1, y0, y1, y2, y3, y4⟩ := dcClock (i := 0) kL rfl rfl
        obtain ⟨c2, e2, u0, u1, u2, u3, u4⟩ := dcClock (i := 1) kL rfl rfl
        have hIl : (((Gram.nms (m + 1)).map fun n : Gram.B × Int => (⟨n.1, (k : Int), (z : Int), [], n.2⟩ : Gram.Var)) ++ [(⟨[99], 1, 0, [], cp⟩ : Gram.Var)]).length = n + 1 := by rw [List.length_append, List.length_map, Gram.nms_len, HN.out]; rfl
        have hI : ∀ i, i < n → (((Gram.nms (m + 1)).map fun n : Gram.B × Int => (⟨n.1, (k : Int), (z : Int), [], n.2⟩ : Gram.Var)) ++ [(⟨[99], 1, 0, [], cp⟩ : Gram.Var)])[i]? = some ⟨Lex.nameL i, (k : Int), (z : Int), [], ((Lex.plc i : Nat) : Int)⟩ := fun i hi => by
          rw [List.getElem?_append_left (by rw [List.length_map, Gram.nms_len, ← HN.out]; exact hi)]
          exact dMap_at _ _ _ (Gram.nms_at (m + 1) i (by rw [← HN.out]; exact hi))
        rw [List.length_map, hIl] at q1 kI
        simp only [List.length_map, List.length_cons, List.length_nil, Nat.zero_add, Nat.reduceAdd, Nat.zero_mul, Nat.one_mul] at q3 y0 u0
        clear x1 kk hA3 hg3 hpp hall HT hIl
        generalize (((Gram.nms (m + 1)).map fun n : Gram.B × Int => (⟨n.1, (k : Int), (z : Int), [], n.2⟩ : Gram.Var)) ++ [(⟨[99], 1, 0, [], cp⟩ : Gram.Var)]) = ins at kI hI
        have HI := Lib.hid (And.intro kI hI)
        clear kI hI kL
        obtain ⟨L, hL⟩ : ∃ L, L = n + 1 := ⟨_, rfl⟩
        have hLn : ((L : Int) != (n : Int) + 1) = false := bne_t2 (by omega)
        rw [← hL] at q1 HI
        have HLL := Lib.hid hL
        clear hL
        refine Lib.hid ?_
        go_wp2_with (go_at_call 8; refine (num_any _ _).mono ?_; rintro e w' ⟨rfl, rfl⟩)
        obtain ⟨W, hW⟩ : ∃ W, W = w3.alloc (.cells #[.slice (some ⟨g, 0, none⟩) 1 vc] 25) := ⟨_, rfl⟩
        obtain ⟨p, hp⟩ : ∃ p, p = w3.heap.size := ⟨_, rfl⟩
        rw [← hW] at HG3 z0 q1 q3 HI y0 y1 y2 y3 y4 u0 u1 u2 u3 u4 ⊢
        rw [← hp] at z0 ⊢
        clear hW hp
        go_loopw [15, 16] (fun av iv wr => ∃ t : Nat, t ≤ n ∧ iv = .int .i64 (t : Int) ∧ av = .int .i64 ((Lex.plc t : Nat) : Int) ∧ Hid (W.grownBy wr none)) (fun _ i _ => n - (intOf i).toNat)
        case atStart => exact ⟨0, Nat.zero_le _, rfl, rfl, Lib.hid (World.grownBy.refl _ _)⟩
        case round =>
          obtain ⟨t, ht, rfl, rfl, HU⟩ := hrel
          have z1 := HU.out.cell z0 (by simp)
          have q1' := HU.out.cell q1 (by simp)
          have q3' := HU.out.cell q3 (by simp)
          by_cases hlt : t < n
          · obtain ⟨ca, cc, r0, r1, r2, r3, r4⟩ := dcVar (RepC.kept HU.out (fun k e => by cases e) HI.out.1) (HI.out.2 t hlt)
            have htL : t < L := by have := HLL.out; omega
            have hpl := plc_le t (by omega)
            have hnl := (Lex.name_facts ⟨t, by omega⟩).2.2.1
            simp only at hnl
            obtain ⟨NM, hNM⟩ : ∃ NM : ByteArray, NM = ⟨(Lex.nameL t).toArray⟩ := ⟨_, rfl⟩
            have hsz : NM.size = (Lex.nameL t).length := by rw [hNM]; simp [ByteArray.size]
            rw [← hNM] at r0
            have hadd : ∀ x : ByteArray, x.data.toList = Lex.dig t → ∀ wx, _ := fun x hx wx => run_string_add_sum (P := Tryz.prog) wx ⟨#[97]⟩ x (by
              have : x.size ≤ 2 := by rw [← ba_len, hx]; exact (Lex.dig_facts ⟨t, by omega⟩).2.2.1
              show 1 + x.size ≤ _; omega)
            have hsum : ∀ x : ByteArray, x.data.toList = Lex.dig t → (⟨#[97]⟩ : ByteArray) ++ x = NM := fun x hx => by
              rw [hNM]; exact ba_eq (by rw [ba_app, hx]; rfl)
            have HP : Hid (Lex.plc (t + 1) = Lex.plc t + NM.size + 2) := Lib.hid (by rw [hsz]; rfl)
            have hnm3 : NM.size ≤ 3 := by rw [hsz]; exact hnl
            obtain ⟨X, hX⟩ : ∃ X, X = Lex.plc t := ⟨_, rfl⟩
            rw [← hX] at r4 HP hpl
            clear hNM hsz hnl z0 q1 q3
            rw [← hX]
            clear hX
            have hD := fun W => rdig_any t (by omega) W
            go_wp2
            obtain ⟨V, hV⟩ : ∃ V, V = wr.alloc (.cells #[.string NM, .int .i64 (k : Int), .int .i64 (z : Int), .slice ca 0 cc, .int .i64 (X : Int)] 39) := ⟨_, rfl⟩
            have hS : V.cell? ⟨wr.heap.size, 0, none⟩ = some (.string NM) ∧ V.cell? ⟨wr.heap.size, 1, none⟩ = some (.int .i64 (k : Int)) ∧ V.cell? ⟨wr.heap.size, 2, none⟩ = some (.int .i64 (z : Int)) ∧ V.cell? ⟨wr.heap.size, 3, none⟩ = some (.slice ca 0 cc) ∧ V.cell? ⟨wr.heap.size, 4, none⟩ = some (.int .i64 (X : Int)) ∧ wr.grownBy V none := by
              rw [hV]
              exact ⟨by simp, by simp, by simp, by simp, by simp, World.grownBy_alloc wr _ none⟩
            rw [← hV]
            clear hV
            obtain ⟨P, hP⟩ : ∃ P, P = wr.heap.size := ⟨_, rfl⟩
            rw [← hP] at hS ⊢
            clear hP
            have HDD : Hid (∀ W : World, Calls Tryz.prog 10 #[.int .i64 (t : Int)] W fun e w' => e = .returned (.string ⟨(Lex.dig t).toArray⟩) ∧ w' = W) := Lib.hid (fun W => (hD W).mono (by rintro e w' ⟨⟨x, rfl, hx⟩, rfl⟩; exact ⟨by rw [ba_eq hx], rfl⟩))
            obtain ⟨DG, hDG⟩ : ∃ DG : ByteArray, DG = ⟨(Lex.dig t).toArray⟩ := ⟨_, rfl⟩
            rw [← hDG] at HDD
            have ha1 := hadd DG (by rw [hDG])
            have ha2 := hsum DG (by rw [hDG])
            rw [ha2] at ha1
            clear hadd hsum hD hDG ha2 r0 r1 r2 r3 r4
            go_region_held3 (fun V => V.cell? ⟨P, 0, none⟩ = some (.string NM) ∧ V.cell? ⟨P, 1, none⟩ = some (.int .i64 (k : Int)) ∧ V.cell? ⟨P, 2, none⟩ = some (.int .i64 (z : Int)) ∧ V.cell? ⟨P, 3, none⟩ = some (.slice ca 0 cc) ∧ V.cell? ⟨P, 4, none⟩ = some (.int .i64 (X : Int)) ∧ wr.grownBy V none) (first | exact hS | exact dcDrew hS)
              (first | (go_at_call 10; refine (HDD.out _).mono ?_; rintro e w6 ⟨rfl, rfl⟩; have hS := dcDrew hS))
            have HG4 := Lib.hid (HU.out.trans hS.2.2.2.2.2)
            have s0 := hS.1
            clear hS
            go_wp2
            refine ⟨⟨t + 1, by omega, by go_num, ?_, HG4⟩, by simp [intOf]; omega⟩
            rw [HP.out]
            simp
          · have hv0 := HU.out.cell y0 (by simp)
            have hv1 := HU.out.cell y1 (by simp)
            have hv2 := HU.out.cell y2 (by simp)
            have hv3 := HU.out.cell y3 (by simp)
            have hv4 := HU.out.cell y4 (by simp)
            have hu0 := HU.out.cell u0 (by simp)
            have hu1 := HU.out.cell u1 (by simp)
            have hu2 := HU.out.cell u2 (by simp)
            have hu3 := HU.out.cell u3 (by simp)
            have hu4 := HU.out.cell u4 (by simp)
            have HG4 := Lib.hid (HG3.out.trans HU.out)
            clear y0 y1 y2 y3 y4 u0 u1 u2 u3 u4 z0 q1 q3 HU HI HG3
            go_wp2
            go_quiet (fail)
            go_wp2
            go_ret
            exact ⟨by first | rfl | simp, gdrewN HG4.out _⟩
      · have HZ := Lib.hid h0
        have hgt : decide ((0 : Int) < z) = true := by rw [decide_eq_true_iff]; omega
        have hgt2 : 0 < z := by omega
        clear h0
        have hD2 := fun W => rdig_any z (by omega) W
        refine Lib.hid ?_
        go_wp2_with (go_at_call 10; refine (hD2 _).mono ?_; rintro e w' ⟨⟨x, rfl, hx⟩, hw'⟩; subst hw'; refine Hid.out ?_)
        have hxs : x.size ≤ 2 := by rw [← ba_len, hx]; exact (Lex.dig_facts ⟨z, by omega⟩).2.2.1
        have HT : Hid (∀ TX : ByteArray, TX = A ++ ⟨#[58, 32]⟩ ++ (kb ++ ⟨#[94]⟩ ++ x) ++ ⟨Lex.sufL.toArray⟩ → TX.data.toList = Lex.declL m k z) := Lib.hid (fun TX e => by
          rw [e, ba_app, ba_app, ba_app, ba_app, ba_app, HA.out, HKL.out, HN.out, hx]
          simp [upTo, Lex.declL, Lex.tyL, HZ.out])
        clear hx hD2
        refine Lib.hid ?_
        obtain ⟨o, its, ap, bp, cp, dp, hpp⟩ := Gram.parse_decl m k z hm hk1 hk9 hz
        have hall : ∀ TX : ByteArray, TX.data.toList = Lex.declL m k z → Gram.parse TX.data.toList = .ok _ := fun TX e => by rw [e]; exact hpp
        go_wp2_with (go_at_call 7; refine (gparse_ok (hall _ (HT.out _ rfl)) _ hl2).mono ?_; rintro e w3 ⟨v1, rfl, kk, hg3⟩; obtain ⟨va, vn, vc, rfl⟩ := kk.form; refine Hid.out ?_)
        have hA3 := World.grownBy_alloc w3 (.cells #[.slice va vn vc] 25) none
        have HG3 := Lib.hid ((HG2.out.trans hg3).trans hA3)
        have z0 := cell_alloc_zero w3 (.slice va vn vc) 25
        have x1 := RepC.mono (Nat.zero_le _) (RepC.kept hA3 (fun k e => by cases e) kk)
        obtain ⟨g, v1, v3, rfl, rfl, q1, q3, kI, kL⟩ := dcNode x1
        simp only at kI kL
        obtain ⟨h, ci, e1⟩ := kI.lies (by simp)
        obtain ⟨l, cl, e3⟩ := kL.lies (by simp)
        subst e1
        subst e3
        obtain ⟨c1, e1, y0, y1, y2, y3, y4⟩ := dcClock (i := 0) kL rfl rfl
        obtain ⟨c2, e2, u0, u1, u2, u3, u4⟩ := dcClock (i := 1) kL rfl rfl
        have hIl : (((Gram.nms (m + 1)).map fun n : Gram.B × Int => (⟨n.1, (k : Int), (z : Int), [], n.2⟩ : Gram.Var)) ++ [(⟨[99], 1, 0, [], cp⟩ : Gram.Var)]).length = n + 1 := by rw [List.length_append, List.length_map, Gram.nms_len, HN.out]; rfl
        have hI : ∀ i, i < n → (((Gram.nms (m + 1)).map fun n : Gram.B × Int => (⟨n.1, (k : Int), (z : Int), [], n.2⟩ : Gram.Var)) ++ [(⟨[99], 1, 0, [], cp⟩ : Gram.Var)])[i]? = some ⟨Lex.nameL i, (k : Int), (z : Int), [], ((Lex.plc i : Nat) : Int)⟩ := fun i hi => by
          rw [List.getElem?_append_left (by rw [List.length_map, Gram.nms_len, ← HN.out]; exact hi)]
          exact dMap_at _ _ _ (Gram.nms_at (m + 1) i (by rw [← HN.out]; exact hi))
        rw [List.length_map, hIl] at q1 kI
        simp only [List.length_map, List.length_cons, List.length_nil, Nat.zero_add, Nat.reduceAdd, Nat.zero_mul, Nat.one_mul] at q3 y0 u0
        clear x1 kk hA3 hg3 hpp hall HT hIl
        generalize (((Gram.nms (m + 1)).map fun n : Gram.B × Int => (⟨n.1, (k : Int), (z : Int), [], n.2⟩ : Gram.Var)) ++ [(⟨[99], 1, 0, [], cp⟩ : Gram.Var)]) = ins at kI hI
        have HI := Lib.hid (And.intro kI hI)
        clear kI hI kL
        obtain ⟨L, hL⟩ : ∃ L, L = n + 1 := ⟨_, rfl⟩
        have hLn : ((L : Int) != (n : Int) + 1) = false := bne_t2 (by omega)
        rw [← hL] at q1 HI
        have HLL := Lib.hid hL
        clear hL
        refine Lib.hid ?_
        go_wp2_with (go_at_call 8; refine (num_any _ _).mono ?_; rintro e w' ⟨rfl, rfl⟩)
        obtain ⟨W, hW⟩ : ∃ W, W = w3.alloc (.cells #[.slice (some ⟨g, 0, none⟩) 1 vc] 25) := ⟨_, rfl⟩
        obtain ⟨p, hp⟩ : ∃ p, p = w3.heap.size := ⟨_, rfl⟩
        rw [← hW] at HG3 z0 q1 q3 HI y0 y1 y2 y3 y4 u0 u1 u2 u3 u4 ⊢
        rw [← hp] at z0 ⊢
        clear hW hp
        go_loopw [15, 16] (fun av iv wr => ∃ t : Nat, t ≤ n ∧ iv = .int .i64 (t : Int) ∧ av = .int .i64 ((Lex.plc t : Nat) : Int) ∧ Hid (W.grownBy wr none)) (fun _ i _ => n - (intOf i).toNat)
        case atStart => exact ⟨0, Nat.zero_le _, rfl, rfl, Lib.hid (World.grownBy.refl _ _)⟩
        case round =>
          obtain ⟨t, ht, rfl, rfl, HU⟩ := hrel
          have z1 := HU.out.cell z0 (by simp)
          have q1' := HU.out.cell q1 (by simp)
          have q3' := HU.out.cell q3 (by simp)
          by_cases hlt : t < n
          · obtain ⟨ca, cc, r0, r1, r2, r3, r4⟩ := dcVar (RepC.kept HU.out (fun k e => by cases e) HI.out.1) (HI.out.2 t hlt)
            have htL : t < L := by have := HLL.out; omega
            have hpl := plc_le t (by omega)
            have hnl := (Lex.name_facts ⟨t, by omega⟩).2.2.1
            simp only at hnl
            obtain ⟨NM, hNM⟩ : ∃ NM : ByteArray, NM = ⟨(Lex.nameL t).toArray⟩ := ⟨_, rfl⟩
            have hsz : NM.size = (Lex.nameL t).length := by rw [hNM]; simp [ByteArray.size]
            rw [← hNM] at r0
            have hadd : ∀ x : ByteArray, x.data.toList = Lex.dig t → ∀ wx, _ := fun x hx wx => run_string_add_sum (P := Tryz.prog) wx ⟨#[97]⟩ x (by
              have : x.size ≤ 2 := by rw [← ba_len, hx]; exact (Lex.dig_facts ⟨t, by omega⟩).2.2.1
              show 1 + x.size ≤ _; omega)
            have hsum : ∀ x : ByteArray, x.data.toList = Lex.dig t → (⟨#[97]⟩ : ByteArray) ++ x = NM := fun x hx => by
              rw [hNM]; exact ba_eq (by rw [ba_app, hx]; rfl)
            have HP : Hid (Lex.plc (t + 1) = Lex.plc t + NM.size + 2) := Lib.hid (by rw [hsz]; rfl)
            have hnm3 : NM.size ≤ 3 := by rw [hsz]; exact hnl
            obtain ⟨X, hX⟩ : ∃ X, X = Lex.plc t := ⟨_, rfl⟩
            rw [← hX] at r4 HP hpl
            clear hNM hsz hnl z0 q1 q3
            rw [← hX]
            clear hX
            have hD := fun W => rdig_any t (by omega) W
            go_wp2
            obtain ⟨V, hV⟩ : ∃ V, V = wr.alloc (.cells #[.string NM, .int .i64 (k : Int), .int .i64 (z : Int), .slice ca 0 cc, .int .i64 (X : Int)] 39) := ⟨_, rfl⟩
            have hS : V.cell? ⟨wr.heap.size, 0, none⟩ = some (.string NM) ∧ V.cell? ⟨wr.heap.size, 1, none⟩ = some (.int .i64 (k : Int)) ∧ V.cell? ⟨wr.heap.size, 2, none⟩ = some (.int .i64 (z : Int)) ∧ V.cell? ⟨wr.heap.size, 3, none⟩ = some (.slice ca 0 cc) ∧ V.cell? ⟨wr.heap.size, 4, none⟩ = some (.int .i64 (X : Int)) ∧ wr.grownBy V none := by
              rw [hV]
              exact ⟨by simp, by simp, by simp, by simp, by simp, World.grownBy_alloc wr _ none⟩
            rw [← hV]
            clear hV
            obtain ⟨P, hP⟩ : ∃ P, P = wr.heap.size := ⟨_, rfl⟩
            rw [← hP] at hS ⊢
            clear hP
            have HDD : Hid (∀ W : World, Calls Tryz.prog 10 #[.int .i64 (t : Int)] W fun e w' => e = .returned (.string ⟨(Lex.dig t).toArray⟩) ∧ w' = W) := Lib.hid (fun W => (hD W).mono (by rintro e w' ⟨⟨x, rfl, hx⟩, rfl⟩; exact ⟨by rw [ba_eq hx], rfl⟩))
            obtain ⟨DG, hDG⟩ : ∃ DG : ByteArray, DG = ⟨(Lex.dig t).toArray⟩ := ⟨_, rfl⟩
            rw [← hDG] at HDD
            have ha1 := hadd DG (by rw [hDG])
            have ha2 := hsum DG (by rw [hDG])
            rw [ha2] at ha1
            clear hadd hsum hD hDG ha2 r0 r1 r2 r3 r4
            go_region_held3 (fun V => V.cell? ⟨P, 0, none⟩ = some (.string NM) ∧ V.cell? ⟨P, 1, none⟩ = some (.int .i64 (k : Int)) ∧ V.cell? ⟨P, 2, none⟩ = some (.int .i64 (z : Int)) ∧ V.cell? ⟨P, 3, none⟩ = some (.slice ca 0 cc) ∧ V.cell? ⟨P, 4, none⟩ = some (.int .i64 (X : Int)) ∧ wr.grownBy V none) (first | exact hS | exact dcDrew hS)
              (first | (go_at_call 10; refine (HDD.out _).mono ?_; rintro e w6 ⟨rfl, rfl⟩; have hS := dcDrew hS))
            have HG4 := Lib.hid (HU.out.trans hS.2.2.2.2.2)
            have s0 := hS.1
            clear hS
            go_wp2
            refine ⟨⟨t + 1, by omega, by go_num, ?_, HG4⟩, by simp [intOf]; omega⟩
            rw [HP.out]
            simp
          · have hv0 := HU.out.cell y0 (by simp)
            have hv1 := HU.out.cell y1 (by simp)
            have hv2 := HU.out.cell y2 (by simp)
            have hv3 := HU.out.cell y3 (by simp)
            have hv4 := HU.out.cell y4 (by simp)
            have hu0 := HU.out.cell u0 (by simp)
            have hu1 := HU.out.cell u1 (by simp)
            have hu2 := HU.out.cell u2 (by simp)
            have hu3 := HU.out.cell u3 (by simp)
            have hu4 := HU.out.cell u4 (by simp)
            have HG4 := Lib.hid (HG3.out.trans HU.out)
            clear y0 y1 y2 y3 y4 u0 u1 u2 u3 u4 z0 q1 q3 HU HI HG3
            go_wp2
            go_quiet (fail)
            go_wp2
            go_ret
            exact ⟨by first | rfl | simp, gdrewN HG4.out _⟩

theorem gramDecls_walk (n k z : Int) (w : World) (hl : LaidG w) : Calls Tryz.prog 4 #[.int .i64 n, .int .i64 k, .int .i64 z] w fun e w' => e = .returned (.bool true) ∧ w.grownBy w' none := by
  by_cases hn : n < 1 ∨ 30 < n ∨ k < 1 ∨ 9 < k ∨ z < 0 ∨ 99 < z
  · exact gx_out n k z w hl hn
  obtain ⟨m, rfl⟩ : ∃ m : Nat, n = ((m + 1 : Nat) : Int) := ⟨(n - 1).toNat, by omega⟩
  obtain ⟨k', rfl⟩ : ∃ m : Nat, k = (m : Int) := ⟨k.toNat, by omega⟩
  obtain ⟨z', rfl⟩ : ∃ m : Nat, z = (m : Int) := ⟨z.toNat, by omega⟩
  exact gx_in m k' z' (by omega) (by omega) (by omega) (by omega) w hl

end Go.Proofs.YtjcdkgjfecnkgabGreatDoor
