/- The walk of gather: the tokens of the text from where the reader stands, or where and why it has none. -/
import Derived.Test.YtbiplgidlmbbkaaDoorLexH
namespace Go.Proofs.YtbiplgidlmbbkaaDoor
open Go.RowKit Go.Maps Go.WideMaps

theorem six_one (a c d f g : Int) (x : ByteArray) : ∀ u ∈ [Value.int .i64 a, .string x, .int .i64 c, .int .i64 d, .int .i64 f, .int .i64 g], u.oneCell' = true := by
  intro u hu
  simp only [List.mem_cons, List.not_mem_nil, or_false] at hu
  rcases hu with rfl | rfl | rfl | rfl | rfl | rfl <;> rfl

theorem cell_six_new2 (w : World) (o : Obj) (v0 v1 v2 v3 v4 v5 : Value) (t : TypeId) : ∀ j u, [v0, v1, v2, v3, v4, v5][j]? = some u → ((w.alloc o).alloc (.cells #[v0, v1, v2, v3, v4, v5] t)).cell? ((⟨w.heap.size + 1, 0, none⟩ : Addr).add j) = some u := by
  have h := cell_six_new (w.alloc o) v0 v1 v2 v3 v4 v5 t
  rw [World.size_alloc] at h
  exact h

theorem len_own {w : World} {base : Nat} {v : Value} {n : Nat} {xs : List Value} (h : w.ownsRow base 30 6 v n xs) (ty : TypeId) (wx : World) :
    (Builtin.len_ #[23] ty #[v]).run Tryd.prog wx = .ok (.int .i64 (n : Int)) wx := by
  rcases h.2 with ⟨rfl, rfl⟩ | ⟨g, cap, cur, rfl, _⟩
  · simp [Builtin.len_, run_underlying Tryd.underlying23, goInt, Result.andThen]
  · simp [Builtin.len_, run_underlying Tryd.underlying23, goInt, Result.andThen]

theorem infoP {t : TypeId} {z : Value} {a b : Nat} (h : (Tryd.prog.info? t).map (fun i => (i.zero, i.size, i.bytes)) = some (some z, a, b)) : ∃ i, Tryd.prog.info? t = some i ∧ i.zero = some z ∧ i.size = a ∧ i.bytes = b := by
  cases hi : Tryd.prog.info? t with
  | none => rw [hi] at h; cases h
  | some i => rw [hi] at h; simp at h; exact ⟨i, rfl, h.1, h.2.1, h.2.2⟩

set_option maxHeartbeats 3200000 in
theorem gather_any (b : Nat) (s : ByteArray) (m : Nat) (hs : s.size ≤ 65536) (hbm : m ≠ b) (hb1 : b ≠ 1) (w : World) (h : Rd w b s 0 m) (hW : WMap w m) (hl : LaidR w) :
    Calls Tryd.prog 19 #[.func (.func 20) #[.pointer (some ⟨b, 0, none⟩)] #[]] w fun e w' => tkPost w (Lex.tail s.data.toList 0 20000) e w' ∧ w.grownBy w' (some b) := by
  obtain ⟨it, hit, hz, hsz, hby⟩ := infoP infoT
  have hbw := h.lt
  go_enter Tryd.func19, Tryd.ntmps19
  go_wp2
  go_loopw [5] (fun v wr => ∃ (acc : List Lex.Tk) (i : Nat), i ≤ s.size ∧ acc.length ≤ 20000 ∧ wr.ownsRow w.heap.size 30 6 v acc.length (Lex.row acc) ∧ Rd wr b s i m ∧ WMap wr m ∧ LaidR wr ∧ w.grownBy wr (some b) ∧ Hid (Lex.preL acc (Lex.tail s.data.toList i (20000 - acc.length)) = Lex.tail s.data.toList 0 20000)) (fun _ wr => s.size - (intOf ((wr.cell? ⟨b, 1, none⟩).getD .nilFunc)).toNat)
  case atStart => exact ⟨[], 0, Nat.zero_le _, Nat.zero_le _, World.ownsRow_nil _ _ _ _, h, hW, hl, World.grownBy.refl _ _, rfl⟩
  case round =>
    obtain ⟨acc, i, hi, hacc, hown, hR, hWr, hlr, hG, HT⟩ := hrel
    have hN := next_any b s i m hs hi hbm hb1 _ hR hWr hlr
    have hvb : u5.ownBlock = none ∨ u5.ownBlock ≠ some b := by
      refine .inr (fun e => ?_)
      have := hown.lt b e
      omega
    have hskp := Lex.skp_le false (s.data.toList.drop i)
    rw [List.length_drop] at hskp
    cases htk : Lex.tokAt (s.data.toList.drop (i + Lex.skp false (s.data.toList.drop i))) with
    | bad er =>
      have HE : Hid (Lex.tail s.data.toList 0 20000 = .err (i + Lex.skp false (s.data.toList.drop i)) er) := by
        show _ = _
        rw [← HT.out, Lex.tail_bad htk, Lex.preL_err]
      have hne := tokAt_bad htk
      have hne0 : (er == 0) = false := by rw [beq_eq_false_iff_ne]; exact bne_iff_ne.1 hne
      rw [htk] at hN
      clear htk HT
      generalize i + Lex.skp false (s.data.toList.drop i) = p at hN HE
      have hN2 : Calls Tryd.prog 20 #[.pointer (some ⟨b, 0, none⟩)] wr fun e w' => e = .returned (.tuple #[.agg #[.int .i64 0, .string ⟨#[]⟩, .int .i64 0, .int .i64 0, .int .i64 0, .int .i64 (p : Int)], .int .i64 er]) ∧ wr.grownBy w' (some b) :=
        hN.mono fun e w' hh => ⟨hh.1.1, hh.2⟩
      clear hN
      go_wp2_with (go_at_call 20; refine hN2.mono ?_; rintro e w1 ⟨rfl, hg1⟩)
      go_quiet (fail)
      go_wp2
      go_ret3
      refine ⟨?_, gdrewN (galloc (hG.trans hg1) _) _⟩
      rw [HE.out]
      exact ⟨rfl, bne_iff_ne.1 hne⟩
    | tok kd n t len =>
      rw [htk] at hN
      have hcase := Lex.tokAt_tok htk
      have HK : Hid (Lex.tokAt (s.data.toList.drop (i + Lex.skp false (s.data.toList.drop i))) = .tok kd n t len) := htk
      clear htk
      obtain ⟨p, hp⟩ : ∃ p, p = i + Lex.skp false (s.data.toList.drop i) := ⟨_, rfl⟩
      rw [← hp] at hN
      have HP : Hid (p = i + Lex.skp false (s.data.toList.drop i)) := hp
      clear hp
      obtain ⟨x, hx⟩ : ∃ x, x = s.extract p (p + len) := ⟨_, rfl⟩
      have hN2 : Calls Tryd.prog 20 #[.pointer (some ⟨b, 0, none⟩)] wr fun e w' => e = .returned (.tuple #[.agg #[.int .i64 kd, .string x, .int .i64 n, .int .i64 t, .int .i64 0, .int .i64 (p : Int)], .int .i64 0]) ∧ p + len ≤ s.size ∧ Rd w' b s (p + len) m ∧ wr.grownBy w' (some b) :=
        hN.mono fun e w' hh => ⟨by rw [hx]; exact hh.1.1, hh.1.2.1, hh.1.2.2, hh.2⟩
      clear hN
      have hlf := fun ty wx => len_own hown ty wx
      obtain ⟨tk, htk⟩ : ∃ tk : Lex.Tk, tk = ⟨kd, (s.data.toList.drop p).take len, n, t, p⟩ := ⟨_, rfl⟩
      have HX : Hid (Lex.cells tk = [.int .i64 kd, .string x, .int .i64 n, .int .i64 t, .int .i64 0, .int .i64 (p : Int)]) := by
        show _ = _
        rw [htk, hx, ext_mk]; rfl
      have HTK := Lib.hid htk
      clear hx htk
      by_cases hf : acc.length = 20000
      · have hf2 : ((acc.length : Int) == 20000) = true := by rw [beq_iff_eq]; omega
        have HE : Hid (Lex.tail s.data.toList 0 20000 = .err p 2) := by
          show _ = _
          rw [← HT.out, hf, HP.out, Lex.tail_full HK.out, Lex.preL_err]
        clear HT hf
        go_wp2_with (go_at_call 20; refine hN2.mono ?_; rintro e w1 ⟨rfl, hq, hR1, hg1⟩)
        go_quiet (fail)
        go_wp2
        go_ret3
        refine ⟨?_, gdrewN (galloc (hG.trans hg1) _) _⟩
        rw [HE.out]
        exact ⟨rfl, by decide⟩
      · have hf2 : ((acc.length : Int) == 20000) = false := by rw [beq_eq_false_iff_ne]; omega
        have hroom : ¬ 20000 - acc.length = 0 := by omega
        by_cases h5 : kd = 5
        · have HE : Hid (Lex.tail s.data.toList 0 20000 = .ok (acc ++ [tk])) := by
            show _ = _
            rcases hcase with ⟨hnil, _, hn, ht, hlen⟩ | hh
            · have hk := HK.out
              rw [h5] at hk
              rw [← HT.out, Lex.tail_end hk hroom, Lex.preL_ok, HTK.out, HP.out, hnil, h5, hn, ht, List.take_nil]
            · exact absurd h5 hh.2.1
          clear HT hcase HK
          have h52 : (kd == 5) = true := by rw [beq_iff_eq]; exact h5
          clear h5
          go_wp2_with (first | (go_at_call 20; refine hN2.mono ?_; rintro e w1 ⟨rfl, hq, hR1, hg1⟩; refine Hid.out ?_))
          have hown1 := hown.kept hg1 hvb
          have hsz1 := hg1.size
          have hszw := hG.size
          refine Lib.hid ?_
          go_wp2_with (at_builtin; refine wpList_append_own _ rfl _ _ 23 rfl w.heap.size 30 it _ 6 56 Tryd.underlying23 hit hz hsz hby rfl (by decide) _ acc.length (Lex.row acc) rfl ((hown1.alloc _).alloc _) ⟨w1.heap.size + 1, 0, none⟩ 1 1 [.int .i64 kd, .string x, .int .i64 n, .int .i64 t, .int .i64 0, .int .i64 (p : Int)] rfl rfl (cell_six_new2 _ _ _ _ _ _ _ _ _) (six_one _ _ _ _ _ _) ?_ ?_ ?_ ?_)
          · unfold maxLen; omega
          · omega
          · simp only [World.size_alloc]; omega
          intro v' w3 hown' hgrow3 _
          have hT3 : Tkb w3 w1.heap.size (.int .i64 kd) (.string x) (.int .i64 n) (.int .i64 t) (.int .i64 0) (.int .i64 (p : Int)) :=
            ((Tkb.new w1 _ _ _ _ _ _).kept (World.grownBy_alloc _ _ none) (by simp)).kept hgrow3 (fun e => by have := hown1.lt _ e.symm; omega)
          have t0 := hT3.c.1
          have hg3 : w.grownBy w3 (some b) := (galloc (galloc (hG.trans hg1) _) _).andThen hgrow3 (fun j e => .inl (hown1.lt j e).1)
          have hrow : Lex.row acc ++ [.int .i64 kd, .string x, .int .i64 n, .int .i64 t, .int .i64 0, .int .i64 (p : Int)] = Lex.row (acc ++ [tk]) := by rw [Lex.row_snoc, HX.out]
          have hlen2 : (acc ++ [tk]).length = acc.length + 1 := by simp
          rw [hrow, ← hlen2] at hown'
          have HO := Lib.hid hown'
          clear hown' hrow hT3
          go_wp2
          go_ret3
          refine ⟨?_, hg3⟩
          rw [HE.out]
          exact ⟨_, rfl, HO.out⟩
        · have HE : Hid (Lex.preL (acc ++ [tk]) (Lex.tail s.data.toList (p + len) (20000 - (acc ++ [tk]).length)) = Lex.tail s.data.toList 0 20000) := by
            show _ = _
            rw [← HT.out, Lex.tail_tok HK.out hroom h5, Lex.preL_snoc, HTK.out, HP.out]
            simp only [List.length_append, List.length_cons, List.length_nil, Nat.zero_add, Nat.sub_sub]
          have hlen : 0 < len := (hcase.resolve_left (fun hh => h5 hh.2.1)).2.2
          have hpi : i ≤ p := by rw [HP.out]; omega
          clear HT hcase HK
          have h52 : (kd == 5) = false := by rw [beq_eq_false_iff_ne]; exact h5
          clear h5
          have ci := hR.c1
          have HCI := Lib.hid ci
          clear ci
          go_wp2_with (first | (go_at_call 20; refine hN2.mono ?_; rintro e w1 ⟨rfl, hq, hR1, hg1⟩; refine Hid.out ?_))
          have hown1 := hown.kept hg1 hvb
          have hsz1 := hg1.size
          have hszw := hG.size
          refine Lib.hid ?_
          go_wp2_with (at_builtin; refine wpList_append_own _ rfl _ _ 23 rfl w.heap.size 30 it _ 6 56 Tryd.underlying23 hit hz hsz hby rfl (by decide) _ acc.length (Lex.row acc) rfl ((hown1.alloc _).alloc _) ⟨w1.heap.size + 1, 0, none⟩ 1 1 [.int .i64 kd, .string x, .int .i64 n, .int .i64 t, .int .i64 0, .int .i64 (p : Int)] rfl rfl (cell_six_new2 _ _ _ _ _ _ _ _ _) (six_one _ _ _ _ _ _) ?_ ?_ ?_ ?_)
          · unfold maxLen; omega
          · omega
          · simp only [World.size_alloc]; omega
          intro v' w3 hown' hgrow3 _
          have hT3 : Tkb w3 w1.heap.size (.int .i64 kd) (.string x) (.int .i64 n) (.int .i64 t) (.int .i64 0) (.int .i64 (p : Int)) :=
            ((Tkb.new w1 _ _ _ _ _ _).kept (World.grownBy_alloc _ _ none) (by simp)).kept hgrow3 (fun e => by have := hown1.lt _ e.symm; omega)
          have t0 := hT3.c.1
          have hg3 : w.grownBy w3 (some b) := (galloc (galloc (hG.trans hg1) _) _).andThen hgrow3 (fun j e => .inl (hown1.lt j e).1)
          have hrow : Lex.row acc ++ [.int .i64 kd, .string x, .int .i64 n, .int .i64 t, .int .i64 0, .int .i64 (p : Int)] = Lex.row (acc ++ [tk]) := by rw [Lex.row_snoc, HX.out]
          have hlen2 : (acc ++ [tk]).length = acc.length + 1 := by simp
          rw [hrow, ← hlen2] at hown'
          have HO := Lib.hid hown'
          clear hown' hrow hT3
          go_wp2
          go_light
          have hR3 : Rd w3 b s (p + len) m := ((hR1.alloc _).alloc _).kept hgrow3 (fun e => by have := hown1.lt b e.symm; omega)
          refine ⟨⟨acc ++ [tk], p + len, hq, by omega, HO.out, hR3, hW.kept hg3 (fun e => hbm (Option.some.inj e)), hl.on hg3 (fun e => hb1 (Option.some.inj e)), hg3, HE⟩, ?_⟩
          rw [hR3.c1, HCI.out]
          simp only [Option.getD_some, intOf, Int.toNat_natCast]
          omega

end Go.Proofs.YtbiplgidlmbbkaaDoor
