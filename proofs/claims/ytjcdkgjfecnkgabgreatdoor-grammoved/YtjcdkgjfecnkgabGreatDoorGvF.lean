/- GramMoved's walk. -/
import Derived.Test.YtjcdkgjfecnkgabGreatDoorGvE
import Derived.Test.YtjcdkgjfecnkgabGreatDoorGuC
import Derived.Test.YtjcdkgjfecnkgabGreatDoorGuR
namespace Go.Proofs.YtjcdkgjfecnkgabGreatDoor
open Go.RowKit Go.Maps Go.WideMaps

theorem moved_parse (s A : ByteArray) (n : Nat) (hs : s.size ≤ 5000) (hn : n ≤ 50) (hA : A.data.toList = List.replicate n 32) : Gram.parse (A ++ s).data.toList = (Gram.parse s.data.toList).far n := by
  have hl : s.data.toList.length = s.size := by simp
  have e : (A ++ s).data.toList = List.replicate n 32 ++ s.data.toList := by simp [hA]
  rw [e]
  refine Gram.parse_of_far (Lex.tokens_ahead n _ (by omega)) fun T hT => ?_
  obtain ⟨_, h1, h2⟩ := tokens_end hT
  exact ⟨h2, h1⟩

set_option maxHeartbeats 3200000 in
theorem gv_out (s : ByteArray) (n : Int) (hs : s.size ≤ maxLen) (w : World) (hl : LaidG w) (hn : (5000 : Int) < s.size ∨ n < 0 ∨ 50 < n) : Calls Tryz.prog 3 #[.string s, .int .i64 n] w fun e w' => e = .returned (.bool true) ∧ w.grownBy w' none := by
  unfold maxLen at hs
  have hal := alive_any w hl
  go_enter Tryz.func3, Tryz.ntmps3
  go_wp2_with (go_at_call 6; refine hal.mono ?_; rintro e w1 ⟨rfl, hg1⟩; refine Hid.out ?_)
  have hl1 := hl.on hg1
  clear hal
  have HG := Lib.hid hg1
  clear hg1
  refine Lib.hid ?_
  go_wp2
  all_goals (go_ret; exact ⟨rfl, HG.out⟩)

theorem wrapIn (x : Int) (h1 : 0 ≤ x) (h2 : x ≤ 100000) : IntKind.i64.wrap x = x := by rw [IntKind.wrap_i64]; omega
/-- what is kept while the last region goes on -/
theorem mvOn {w0 W W' : World} {p1 p2 g1 g2 h1 h2 L vc uc M1 M2 d1 d2 : Nat} {X1 X2 : Int} {t : Nat} (h : W.cell? ⟨p1, 0, none⟩ = some (.slice (some ⟨g1, 0, none⟩) L vc) ∧ W.cell? ⟨p2, 0, none⟩ = some (.slice (some ⟨g2, 0, none⟩) L uc) ∧ W.cell? ⟨g1, 5, none⟩ = some (.int .i64 X1) ∧ W.cell? ⟨g2, 5, none⟩ = some (.int .i64 (X1 + t)) ∧ W.cell? ⟨g1, 2, none⟩ = some (.slice (some ⟨h1, 0, none⟩) M1 d1) ∧ W.cell? ⟨g2, 2, none⟩ = some (.slice (some ⟨h2, 0, none⟩) M2 d2) ∧ W.cell? ⟨h1, 4, none⟩ = some (.int .i64 X2) ∧ W.cell? ⟨h2, 4, none⟩ = some (.int .i64 (X2 + t)) ∧ w0.grownBy W none) (hg : W.grownBy W' none) : W'.cell? ⟨p1, 0, none⟩ = some (.slice (some ⟨g1, 0, none⟩) L vc) ∧ W'.cell? ⟨p2, 0, none⟩ = some (.slice (some ⟨g2, 0, none⟩) L uc) ∧ W'.cell? ⟨g1, 5, none⟩ = some (.int .i64 X1) ∧ W'.cell? ⟨g2, 5, none⟩ = some (.int .i64 (X1 + t)) ∧ W'.cell? ⟨g1, 2, none⟩ = some (.slice (some ⟨h1, 0, none⟩) M1 d1) ∧ W'.cell? ⟨g2, 2, none⟩ = some (.slice (some ⟨h2, 0, none⟩) M2 d2) ∧ W'.cell? ⟨h1, 4, none⟩ = some (.int .i64 X2) ∧ W'.cell? ⟨h2, 4, none⟩ = some (.int .i64 (X2 + t)) ∧ w0.grownBy W' none :=
  ⟨hg.cell h.1 (by simp), hg.cell h.2.1 (by simp), hg.cell h.2.2.1 (by simp), hg.cell h.2.2.2.1 (by simp), hg.cell h.2.2.2.2.1 (by simp), hg.cell h.2.2.2.2.2.1 (by simp), hg.cell h.2.2.2.2.2.2.1 (by simp), hg.cell h.2.2.2.2.2.2.2.1 (by simp), h.2.2.2.2.2.2.2.2.trans hg⟩
theorem mvDrew {w0 W : World} {p1 p2 g1 g2 h1 h2 L vc uc M1 M2 d1 d2 : Nat} {X1 X2 : Int} {t : Nat} (h : W.cell? ⟨p1, 0, none⟩ = some (.slice (some ⟨g1, 0, none⟩) L vc) ∧ W.cell? ⟨p2, 0, none⟩ = some (.slice (some ⟨g2, 0, none⟩) L uc) ∧ W.cell? ⟨g1, 5, none⟩ = some (.int .i64 X1) ∧ W.cell? ⟨g2, 5, none⟩ = some (.int .i64 (X1 + t)) ∧ W.cell? ⟨g1, 2, none⟩ = some (.slice (some ⟨h1, 0, none⟩) M1 d1) ∧ W.cell? ⟨g2, 2, none⟩ = some (.slice (some ⟨h2, 0, none⟩) M2 d2) ∧ W.cell? ⟨h1, 4, none⟩ = some (.int .i64 X2) ∧ W.cell? ⟨h2, 4, none⟩ = some (.int .i64 (X2 + t)) ∧ w0.grownBy W none) : W.drew.cell? ⟨p1, 0, none⟩ = some (.slice (some ⟨g1, 0, none⟩) L vc) ∧ W.drew.cell? ⟨p2, 0, none⟩ = some (.slice (some ⟨g2, 0, none⟩) L uc) ∧ W.drew.cell? ⟨g1, 5, none⟩ = some (.int .i64 X1) ∧ W.drew.cell? ⟨g2, 5, none⟩ = some (.int .i64 (X1 + t)) ∧ W.drew.cell? ⟨g1, 2, none⟩ = some (.slice (some ⟨h1, 0, none⟩) M1 d1) ∧ W.drew.cell? ⟨g2, 2, none⟩ = some (.slice (some ⟨h2, 0, none⟩) M2 d2) ∧ W.drew.cell? ⟨h1, 4, none⟩ = some (.int .i64 X2) ∧ W.drew.cell? ⟨h2, 4, none⟩ = some (.int .i64 (X2 + t)) ∧ w0.grownBy W.drew none := mvOn h ⟨rfl, rfl, rfl, Nat.le_refl _, fun _ _ _ => rfl⟩
/-- the places of a program's first node and of its first output -/
theorem mvCells {W : World} {N : Gram.Node} {r : List Gram.Node} {a : Option Addr} {L c : Nat} {v : Gram.Var} {qs : List Gram.Var} (h : RepC W 0 [] (.l 34 6 ((N :: r).map nodeD)) (.slice a L c)) (ho : N.outs = v :: qs) :
    ∃ g h1 M d, a = some ⟨g, 0, none⟩ ∧ W.cell? ⟨g, 5, none⟩ = some (.int .i64 N.at_) ∧ W.cell? ⟨g, 2, none⟩ = some (.slice (some ⟨h1, 0, none⟩) (M + 1) d) ∧ W.cell? ⟨h1, 4, none⟩ = some (.int .i64 v.at_) := by
  obtain ⟨g, cc, e⟩ := h.lies (by simp)
  cases e
  obtain ⟨vs, hv, q⟩ := h.rowAt (rows_map nodeD_len _) 0 rfl
  obtain ⟨x1, rfl, h_1⟩ := RepRow.cInv hv
  obtain ⟨b1, m1, k1, x2, rfl, _, h_2⟩ := h_1.lInv
  obtain ⟨b2, m2, k2, x3, rfl, hO, h_3⟩ := h_2.lInv
  obtain ⟨b3, m3, k3, x4, rfl, _, h_4⟩ := h_3.lInv
  obtain ⟨b4, m4, k4, x5, rfl, _, h_5⟩ := h_4.lInv
  obtain ⟨x6, rfl, h_6⟩ := h_5.cInv
  rw [ho] at hO
  obtain ⟨h1, c1, e1⟩ := hO.lies (by simp)
  rw [e1] at hO
  have q2 := q 2 _ rfl
  have q5 := q 5 _ rfl
  rw [e1] at q2
  obtain ⟨us, hu, w⟩ := hO.rowAt (rows_map varD_len _) 0 rfl
  obtain ⟨a1, n1, d1, rfl⟩ := varInv hu
  exact ⟨g, h1, qs.length, c1, rfl, q5, by simpa using q2, w 4 _ rfl⟩

set_option maxHeartbeats 3200000 in
theorem gv_bad (s : ByteArray) (n : Nat) (w : World) (hl : LaidG w) (hs : s.size ≤ 5000) (hn : n ≤ 50) (a er : Int) (hp : Gram.parse s.data.toList = .bad a er) : Calls Tryz.prog 3 #[.string s, .int .i64 (n : Int)] w fun e w' => e = .returned (.bool true) ∧ w.grownBy w' none := by
  have hb : 0 ≤ a ∧ a ≤ 65536 := by
    have hl : s.data.toList.length = s.size := by simp
    have := Gram.parse_in s.data.toList (by omega)
    rw [hp] at this
    exact ⟨this.1, by have := this.2; omega⟩
  have d1 : decide ((5000 : Int) < s.size) = false := by rw [decide_eq_false_iff_not]; omega
  have d2 : decide ((n : Int) < 0) = false := by rw [decide_eq_false_iff_not]; omega
  have d3 : decide ((50 : Int) < n) = false := by rw [decide_eq_false_iff_not]; omega
  have hal := alive_any w hl
  go_enter Tryz.func3, Tryz.ntmps3
  go_wp2_with (go_at_call 6; refine hal.mono ?_; rintro e w1 ⟨rfl, hg1⟩; refine Hid.out ?_)
  have hl1 := hl.on hg1
  clear hal
  have HG := Lib.hid hg1
  clear hg1
  refine Lib.hid ?_
  go_wp2
  go_loop [6, 7] (fun sv iv => ∃ (t : Nat) (A : ByteArray), t ≤ n ∧ iv = .int .i64 (t : Int) ∧ sv = .string A ∧ Hid (A.data.toList = List.replicate t 32)) (fun _ i => n - (intOf i).toNat)
  case atStart => exact ⟨0, ⟨#[]⟩, Nat.zero_le _, rfl, rfl, Lib.hid rfl⟩
  case round =>
    obtain ⟨t, A, ht, rfl, rfl, HA⟩ := hrel
    have hA : A.size ≤ 100 := by
      have e1 : A.data.toList.length = A.size := by simp
      rw [HA.out, List.length_replicate] at e1
      omega
    by_cases hlt : t < n
    · have HA2 : Hid ((A ++ ⟨#[32]⟩).data.toList = List.replicate (t + 1) 32) := Lib.hid (by rw [List.replicate_succ', ← HA.out]; simp)
      go_wp2
      exact ⟨⟨t + 1, _, by omega, by go_num, rfl, HA2⟩, by simp [intOf]; omega⟩
    · have e : t = n := by omega
      subst e
      have hq := moved_parse s A t hs hn HA.out
      rw [hp] at hq
      simp only [Gram.Res.far] at hq
      obtain ⟨b1, b2⟩ := hb
      have pz := fun wx => run_string_add_sum (P := Tryz.prog) wx A s (by omega)
      go_wp2_with (go_at_call 7; refine (gparse_bad hp _ hl1).mono ?_; rintro e w2 ⟨rfl, hg2⟩; refine Hid.out ?_)
      have HG2 := Lib.hid (galloc (HG.out.trans hg2) (.cells #[.slice none 0 0] 25))
      have hl2 := (hl1.on hg2).on (World.grownBy_alloc w2 (.cells #[.slice none 0 0] 25) none)
      have z0 := cell_alloc_zero w2 (.slice none 0 0) 25
      clear hg2
      refine Lib.hid ?_
      go_wp2_with (go_at_call 7; refine (gparse_bad hq _ hl2).mono ?_; rintro e w3 ⟨rfl, hg3⟩; refine Hid.out ?_)
      have HG3 := Lib.hid (galloc (HG2.out.trans hg3) (.cells #[.slice none 0 0] 25))
      have z1 := (World.grownBy_alloc w3 (.cells #[.slice none 0 0] 25) none).cell (hg3.cell z0 (by simp)) (by simp)
      clear hg3 z0
      refine Lib.hid ?_
      go_wp2_with (go_at_call 8; refine (num_any _ _).mono ?_; rintro e w' ⟨rfl, rfl⟩)
      all_goals (go_ret; exact ⟨rfl, HG3.out⟩)

set_option maxHeartbeats 3200000 in
theorem gv_ok (s : ByteArray) (n : Nat) (w : World) (hl : LaidG w) (hs : s.size ≤ 5000) (hn : n ≤ 50) (N : Gram.Node) (r : List Gram.Node) (hp : Gram.parse s.data.toList = .ok (N :: r)) : Calls Tryz.prog 3 #[.string s, .int .i64 (n : Int)] w fun e w' => e = .returned (.bool true) ∧ w.grownBy w' none := by
  have hb : (0 ≤ N.at_ ∧ N.at_ ≤ 65536) ∧ ∃ v q, N.outs = v :: q ∧ 0 ≤ v.at_ ∧ v.at_ ≤ 65536 := by
    have hl : s.data.toList.length = s.size := by simp
    have := Gram.parse_in s.data.toList (by omega)
    rw [hp] at this
    obtain ⟨⟨h1, h2⟩, v, q, h3, h4, h5⟩ := this N List.mem_cons_self
    exact ⟨⟨h1, by omega⟩, v, q, h3, h4, by omega⟩
  have d1 : decide ((5000 : Int) < s.size) = false := by rw [decide_eq_false_iff_not]; omega
  have d2 : decide ((n : Int) < 0) = false := by rw [decide_eq_false_iff_not]; omega
  have d3 : decide ((50 : Int) < n) = false := by rw [decide_eq_false_iff_not]; omega
  have hal := alive_any w hl
  go_enter Tryz.func3, Tryz.ntmps3
  go_wp2_with (go_at_call 6; refine hal.mono ?_; rintro e w1 ⟨rfl, hg1⟩; refine Hid.out ?_)
  have hl1 := hl.on hg1
  clear hal
  have HG := Lib.hid hg1
  clear hg1
  refine Lib.hid ?_
  go_wp2
  go_loop [6, 7] (fun sv iv => ∃ (t : Nat) (A : ByteArray), t ≤ n ∧ iv = .int .i64 (t : Int) ∧ sv = .string A ∧ Hid (A.data.toList = List.replicate t 32)) (fun _ i => n - (intOf i).toNat)
  case atStart => exact ⟨0, ⟨#[]⟩, Nat.zero_le _, rfl, rfl, Lib.hid rfl⟩
  case round =>
    obtain ⟨t, A, ht, rfl, rfl, HA⟩ := hrel
    have hA : A.size ≤ 100 := by
      have e1 : A.data.toList.length = A.size := by simp
      rw [HA.out, List.length_replicate] at e1
      omega
    by_cases hlt : t < n
    · have HA2 : Hid ((A ++ ⟨#[32]⟩).data.toList = List.replicate (t + 1) 32) := Lib.hid (by rw [List.replicate_succ', ← HA.out]; simp)
      go_wp2
      exact ⟨⟨t + 1, _, by omega, by go_num, rfl, HA2⟩, by simp [intOf]; omega⟩
    · have e : t = n := by omega
      subst e
      have hq := moved_parse s A t hs hn HA.out
      rw [hp] at hq
      simp only [Gram.Res.far] at hq
      obtain ⟨⟨b1, b2⟩, v, qs, hov, b3, b4⟩ := hb
      have pz := fun wx => run_string_add_sum (P := Tryz.prog) wx A s (by omega)
      go_wp2_with (go_at_call 7; refine (gparse_ok hp _ hl1).mono ?_; rintro e w2 ⟨v1, rfl, k1, hg2⟩; obtain ⟨va, vn, vc, rfl⟩ := k1.form; refine Hid.out ?_)
      have hA2 := World.grownBy_alloc w2 (.cells #[.slice va vn vc] 25) none
      have HG2 := Lib.hid ((HG.out.trans hg2).trans hA2)
      have hl2 := (hl1.on hg2).on hA2
      have z0 := cell_alloc_zero w2 (.slice va vn vc) 25
      clear hg2
      refine Lib.hid ?_
      go_wp2_with (go_at_call 7; refine (gparse_ok hq _ hl2).mono ?_; rintro e w3 ⟨v2, rfl, k2, hg3⟩; obtain ⟨ua, un, uc, rfl⟩ := k2.form; refine Hid.out ?_)
      have hA3 := World.grownBy_alloc w3 (.cells #[.slice ua un uc] 25) none
      have HG3 := Lib.hid ((HG2.out.trans hg3).trans hA3)
      have z1 := hA3.cell (hg3.cell z0 (by simp)) (by simp)
      have z2 := cell_alloc_zero w3 (.slice ua un uc) 25
      have x1 := RepC.mono (Nat.zero_le _) (RepC.kept ((hA2.trans hg3).trans hA3) (fun k e => by cases e) k1)
      have x2 := RepC.mono (Nat.zero_le _) (RepC.kept hA3 (fun k e => by cases e) k2)
      obtain ⟨_, _, e1⟩ := RepC.len x1
      obtain ⟨_, _, e2⟩ := RepC.len x2
      rw [List.length_map] at e1
      rw [List.length_map, List.length_map] at e2
      cases e1
      cases e2
      have hLm := RepC.small x1
      rw [List.length_map] at hLm
      have HS := Lib.hid (same_any t (N :: r) (World.drew (w3.alloc (.cells #[.slice ua (N :: r).length uc] 25))) 0 va ua vc uc (N :: r).length hLm (RepC.kept (gdrew (World.grownBy.refl _ none)) (fun k e => by cases e) x1) (RepC.kept (gdrew (World.grownBy.refl _ none)) (fun k e => by cases e) x2) (Lib.hid rfl))
      have HX := Lib.hid (And.intro x1 x2)
      clear hA2 hA3 hg3 z0 k1 k2 hq hp HG HG2 x1 x2
      obtain ⟨L, hL⟩ : ∃ L, L = (N :: r).length := ⟨_, rfl⟩
      have hL0 : 0 < L := by rw [hL]; simp
      rw [← hL] at z1 z2 HS HX HG3 hLm ⊢
      have HL := Lib.hid hL
      clear hL
      unfold maxLen at hLm
      refine Lib.hid ?_
      go_wp2_with (go_at_call 8; refine (num_any _ _).mono ?_; rintro e w' ⟨rfl, rfl⟩)
      obtain ⟨W, hW⟩ : ∃ W, W = w3.alloc (.cells #[.slice ua L uc] 25) := ⟨_, rfl⟩
      rw [← hW] at z1 z2 HX HS HG3 ⊢
      obtain ⟨p1, hp1⟩ : ∃ p, p = w2.heap.size := ⟨_, rfl⟩
      obtain ⟨p2, hp2⟩ : ∃ p, p = w3.heap.size := ⟨_, rfl⟩
      rw [← hp1] at z1 ⊢
      rw [← hp2] at z2 ⊢
      clear hW hp1 hp2
      obtain ⟨g1, h1, M1, d1, rfl, y1, y2, y3⟩ := mvCells HX.out.1 hov
      obtain ⟨g2, h2, M2, d2, rfl, y4, y5, y6⟩ := mvCells (v := v.far t) (qs := qs.map (Gram.Var.far t)) HX.out.2 (by simp [Gram.Node.far, hov])
      simp only [Gram.Node.far, Gram.Var.far] at y4 y5 y6
      obtain ⟨X1, hX1⟩ : ∃ X, X = N.at_ := ⟨_, rfl⟩
      obtain ⟨X2, hX2⟩ : ∃ X, X = v.at_ := ⟨_, rfl⟩
      rw [← hX1] at y1 y4 b1 b2
      rw [← hX2] at y3 y6 b3 b4
      clear hX1 hX2 HX HL hov
      have hw1 : IntKind.i64.wrap (X1 + t) = X1 + t := wrapIn _ (by omega) (by omega)
      have hw2 : IntKind.i64.wrap (X2 + t) = X2 + t := wrapIn _ (by omega) (by omega)
      have hS : W.cell? ⟨p1, 0, none⟩ = some (.slice (some ⟨g1, 0, none⟩) L vc) ∧ W.cell? ⟨p2, 0, none⟩ = some (.slice (some ⟨g2, 0, none⟩) L uc) ∧ W.cell? ⟨g1, 5, none⟩ = some (.int .i64 X1) ∧ W.cell? ⟨g2, 5, none⟩ = some (.int .i64 (X1 + t)) ∧ W.cell? ⟨g1, 2, none⟩ = some (.slice (some ⟨h1, 0, none⟩) (M1 + 1) d1) ∧ W.cell? ⟨g2, 2, none⟩ = some (.slice (some ⟨h2, 0, none⟩) (M2 + 1) d2) ∧ W.cell? ⟨h1, 4, none⟩ = some (.int .i64 X2) ∧ W.cell? ⟨h2, 4, none⟩ = some (.int .i64 (X2 + t)) ∧ W.grownBy W none := ⟨z1, z2, y1, y4, y2, y5, y3, y6, World.grownBy.refl _ _⟩
      clear z1 z2 y1 y2 y3 y4 y5 y6
      go_region_held3 (fun V => V.cell? ⟨p1, 0, none⟩ = some (.slice (some ⟨g1, 0, none⟩) L vc) ∧ V.cell? ⟨p2, 0, none⟩ = some (.slice (some ⟨g2, 0, none⟩) L uc) ∧ V.cell? ⟨g1, 5, none⟩ = some (.int .i64 X1) ∧ V.cell? ⟨g2, 5, none⟩ = some (.int .i64 (X1 + t)) ∧ V.cell? ⟨g1, 2, none⟩ = some (.slice (some ⟨h1, 0, none⟩) (M1 + 1) d1) ∧ V.cell? ⟨g2, 2, none⟩ = some (.slice (some ⟨h2, 0, none⟩) (M2 + 1) d2) ∧ V.cell? ⟨h1, 4, none⟩ = some (.int .i64 X2) ∧ V.cell? ⟨h2, 4, none⟩ = some (.int .i64 (X2 + t)) ∧ W.grownBy V none) (first | exact hS | exact mvDrew hS)
        (first | (go_at_call 9; refine (HS.out).mono ?_; rintro e w6 ⟨rfl, hg6⟩; have hS := mvOn (mvDrew hS) hg6))
      have HG4 := Lib.hid (HG3.out.trans hS.2.2.2.2.2.2.2.2)
      clear hS
      go_wp2
      go_ret
      exact ⟨rfl, HG4.out⟩

set_option maxHeartbeats 3200000 in
theorem gv_none (s : ByteArray) (n : Nat) (w : World) (hl : LaidG w) (hs : s.size ≤ 5000) (hn : n ≤ 50) (hp : Gram.parse s.data.toList = .ok []) : Calls Tryz.prog 3 #[.string s, .int .i64 (n : Int)] w fun e w' => e = .returned (.bool true) ∧ w.grownBy w' none := by
  have d1 : decide ((5000 : Int) < s.size) = false := by rw [decide_eq_false_iff_not]; omega
  have d2 : decide ((n : Int) < 0) = false := by rw [decide_eq_false_iff_not]; omega
  have d3 : decide ((50 : Int) < n) = false := by rw [decide_eq_false_iff_not]; omega
  have hal := alive_any w hl
  go_enter Tryz.func3, Tryz.ntmps3
  go_wp2_with (go_at_call 6; refine hal.mono ?_; rintro e w1 ⟨rfl, hg1⟩; refine Hid.out ?_)
  have hl1 := hl.on hg1
  clear hal
  have HG := Lib.hid hg1
  clear hg1
  refine Lib.hid ?_
  go_wp2
  go_loop [6, 7] (fun sv iv => ∃ (t : Nat) (A : ByteArray), t ≤ n ∧ iv = .int .i64 (t : Int) ∧ sv = .string A ∧ Hid (A.data.toList = List.replicate t 32)) (fun _ i => n - (intOf i).toNat)
  case atStart => exact ⟨0, ⟨#[]⟩, Nat.zero_le _, rfl, rfl, Lib.hid rfl⟩
  case round =>
    obtain ⟨t, A, ht, rfl, rfl, HA⟩ := hrel
    have hA : A.size ≤ 100 := by
      have e1 : A.data.toList.length = A.size := by simp
      rw [HA.out, List.length_replicate] at e1
      omega
    by_cases hlt : t < n
    · have HA2 : Hid ((A ++ ⟨#[32]⟩).data.toList = List.replicate (t + 1) 32) := Lib.hid (by rw [List.replicate_succ', ← HA.out]; simp)
      go_wp2
      exact ⟨⟨t + 1, _, by omega, by go_num, rfl, HA2⟩, by simp [intOf]; omega⟩
    · have e : t = n := by omega
      subst e
      have hq := moved_parse s A t hs hn HA.out
      rw [hp] at hq
      simp only [Gram.Res.far] at hq
      have pz := fun wx => run_string_add_sum (P := Tryz.prog) wx A s (by omega)
      go_wp2_with (go_at_call 7; refine (gparse_ok hp _ hl1).mono ?_; rintro e w2 ⟨v1, rfl, k1, hg2⟩; obtain ⟨va, vn, vc, rfl⟩ := k1.form; refine Hid.out ?_)
      have hA2 := World.grownBy_alloc w2 (.cells #[.slice va vn vc] 25) none
      have HG2 := Lib.hid ((HG.out.trans hg2).trans hA2)
      have hl2 := (hl1.on hg2).on hA2
      have z0 := cell_alloc_zero w2 (.slice va vn vc) 25
      clear hg2
      refine Lib.hid ?_
      go_wp2_with (go_at_call 7; refine (gparse_ok hq _ hl2).mono ?_; rintro e w3 ⟨v2, rfl, k2, hg3⟩; obtain ⟨ua, un, uc, rfl⟩ := k2.form; refine Hid.out ?_)
      have hA3 := World.grownBy_alloc w3 (.cells #[.slice ua un uc] 25) none
      have HG3 := Lib.hid ((HG2.out.trans hg3).trans hA3)
      have z1 := hA3.cell (hg3.cell z0 (by simp)) (by simp)
      have z2 := cell_alloc_zero w3 (.slice ua un uc) 25
      obtain ⟨_, _, e1⟩ := RepC.len k1
      obtain ⟨_, _, e2⟩ := RepC.len k2
      rw [List.length_map] at e1
      rw [List.length_map, List.length_map] at e2
      cases e1
      cases e2
      simp only [List.length_nil] at z1 z2 HG3
      clear hA2 hA3 hg3 z0 k1 k2 hq hp HG HG2
      refine Lib.hid ?_
      go_wp2_with (go_at_call 8; refine (num_any _ _).mono ?_; rintro e w' ⟨rfl, rfl⟩)
      go_ret
      exact ⟨rfl, HG3.out⟩

theorem gramMoved_walk (s : ByteArray) (n : Int) (hs : s.size ≤ maxLen) (w : World) (hl : LaidG w) : Calls Tryz.prog 3 #[.string s, .int .i64 n] w fun e w' => e = .returned (.bool true) ∧ w.grownBy w' none := by
  by_cases hn : (5000 : Int) < s.size ∨ n < 0 ∨ 50 < n
  · exact gv_out s n hs w hl hn
  obtain ⟨m, rfl⟩ : ∃ m : Nat, n = (m : Int) := ⟨n.toNat, by omega⟩
  cases hp : Gram.parse s.data.toList with
  | fuel => exact absurd hp (Gram.parse_any _)
  | bad a er => exact gv_bad s m w hl (by omega) (by omega) a er hp
  | ok l =>
    cases l with
    | nil => exact gv_none s m w hl (by omega) (by omega) hp
    | cons N r => exact gv_ok s m w hl (by omega) (by omega) N r hp

end Go.Proofs.YtjcdkgjfecnkgabGreatDoor
