/- lex's reader, on: the walks of its methods name and number. -/
import Derived.Test.YtbiplgidlmbbkaaDoorLexW
import Derived.Test.YtbiplgidlmbbkaaDoorLexO
import Derived.Maps.OwnOps
namespace Go.Proofs.YtbiplgidlmbbkaaDoor
open Go.RowKit Go.Maps Go.WideMaps

theorem ext_list (s : ByteArray) (i j : Nat) : (s.extract i (i + j)).data.toList = (s.data.toList.drop i).take j := by
  simp [ByteArray.data_extract]
theorem ext_size (s : ByteArray) (i j : Nat) (h : i + j ≤ s.size) : (s.extract i (i + j)).size = j := by
  rw [ByteArray.size_extract]; omega
theorem spn_take (p : UInt8 → Bool) : ∀ l : List UInt8, l.take (Lex.spn p l) = l.takeWhile p
  | [] => rfl
  | c :: r => by
    unfold Lex.spn
    rw [List.takeWhile_cons]
    split
    · rw [List.length_cons, List.take_succ_cons]
      have := spn_take p r
      unfold Lex.spn at this
      rw [this]
    · rfl
theorem kindOf_le (l : List UInt8) : Lex.kindOf l ≤ 9 := by
  have h : ∀ p ∈ Lex.tbl, p.2 ≤ 9 := by decide
  unfold Lex.kindOf Lex.look
  cases e : Lex.tbl.find? (fun p => p.1 == l) with
  | none => simp
  | some p => simpa using h p (List.mem_of_find?_eq_some e)
theorem zeroInt (w : World) : (zeroValue 3).run Tryd.prog w = .ok (.int .i64 0) w := by kernel_rfl

set_option maxHeartbeats 1600000 in
theorem name_any (b : Nat) (s : ByteArray) (i m : Nat) (hs : s.size ≤ 65536) (hi : i ≤ s.size) (hbm : m ≠ b) (w : World) (h : Rd w b s i m) (hW : WMap w m) :
    Calls Tryd.prog 43 #[.pointer (some ⟨b, 0, none⟩)] w fun e w' => rdPost b s i m w (Lex.nameTok (s.data.toList.drop i)) e w' := by
  have hR1 : Rd (w.alloc tk0) b s i m := h.alloc _
  have hT := take_any 42 Lex.word enterWord lexWord_any b s i m hs hi _ hR1
  have hle := Lex.spn_le Lex.word (s.data.toList.drop i)
  rw [List.length_drop] at hle
  have hsz : s.data.toList.length = s.size := by simp
  have ht : Lex.nameTok (s.data.toList.drop i) = if (Lex.look ((s.data.toList.drop i).take (Lex.spn Lex.word (s.data.toList.drop i)))).isSome then .tok 3 0 0 (Lex.spn Lex.word (s.data.toList.drop i)) else if 40 < Lex.spn Lex.word (s.data.toList.drop i) then .bad 2 else .tok 1 0 0 (Lex.spn Lex.word (s.data.toList.drop i)) := rfl
  rw [ht]
  clear ht
  generalize Lex.spn Lex.word (s.data.toList.drop i) = k at hT hle
  have hes := ext_size s i k (by omega)
  rw [← ext_list s i k]
  generalize s.extract i (i + k) = x at hT hes
  have hW1 : WMap (w.alloc tk0) m := hW.kept (World.grownBy_alloc w tk0 none) (by simp)
  have hhas := words_has x.data.toList
  have hkl := keyOf_string_mk (P := Tryd.prog) (k := 9) Tryd.underlying9 (s := x) (by unfold maxLen; omega)
  unfold tk0 at hT hW1
  have hbw := h.lt
  rcases Bool.eq_false_or_eq_true (Lex.look x.data.toList).isSome with hk | hk
  · rw [hk] at hhas ⊢
    rw [if_pos rfl]
    clear hk
    go_enter Tryd.func43, Tryd.ntmps43
    go_wp2_with (go_at_call 37; refine hT.mono ?_; rintro e w1 ⟨rfl, hR2, hg1⟩; refine Hid.out ?_)
    have h6 := Six.of hg1 (fun e => by have := Option.some.inj e; omega)
    obtain ⟨⟨x0, c0⟩, ⟨x1, c1⟩, ⟨x2, c2⟩, ⟨x3, c3⟩, ⟨x4, c4⟩, ⟨x5, c5⟩⟩ := h6.c
    have f0 := h6.f 0
    have f1 := h6.f 1
    have f2 := h6.f 2
    have f3 := h6.f 3
    have f4 := h6.f 4
    have f5 := h6.f 5
    have r2 := hR2.c2
    obtain ⟨n1, hown⟩ := hW1.kept hg1 (fun e => hbm (Option.some.inj e))
    refine Lib.hid ?_
    go_wp2_with (at_lookup; refine wpList_lookup_own_ok_int _ rfl _ _ 45 rfl 9 3 .i64 lawK Tryd.underlying45 Tryd.underlying3 (zeroInt _) m n1 wordsD rfl hown _ _ rfl hkl ?_; intro c _ _; rw [hhas])
    (try simp only [Exit.inBlock, Exit.then])
    refine bodyPost_ret (v := .tuple #[tkv 3 0 0, .int .i64 0]) ?_ rfl ?_
    · rw [results_cell_tmp rfl]
      unfold tkv
      go_simp
    · go_light
      have hg2 := (World.grownBy_alloc w _ _).trans hg1
      refine ⟨⟨rfl, by omega, ?_⟩, ?_⟩
      · repeat (first | with_reducible exact hR2 | with_reducible refine Rd.other ?_ (by show ¬ b = w.heap.size; omega) _)
      · repeat (first | with_reducible exact hg2 | with_reducible refine gset ?_ (.inl (Nat.le_refl _)) _)
  · rw [hk] at hhas ⊢
    rw [if_neg (by decide)]
    clear hk
    by_cases h40 : 40 < k
    · rw [if_pos h40]
      have h40' : decide ((40 : Int) < (x.size : Int)) = true := by rw [decide_eq_true_iff]; omega
      clear hes
      go_enter Tryd.func43, Tryd.ntmps43
      go_wp2_with (go_at_call 37; refine hT.mono ?_; rintro e w1 ⟨rfl, hR2, hg1⟩; refine Hid.out ?_)
      have h6 := Six.of hg1 (fun e => by have := Option.some.inj e; omega)
      obtain ⟨⟨x0, c0⟩, ⟨x1, c1⟩, ⟨x2, c2⟩, ⟨x3, c3⟩, ⟨x4, c4⟩, ⟨x5, c5⟩⟩ := h6.c
      have f0 := h6.f 0
      have f1 := h6.f 1
      have f2 := h6.f 2
      have f3 := h6.f 3
      have f4 := h6.f 4
      have f5 := h6.f 5
      have r2 := hR2.c2
      obtain ⟨n1, hown⟩ := hW1.kept hg1 (fun e => hbm (Option.some.inj e))
      refine Lib.hid ?_
      go_wp2_with (at_lookup; refine wpList_lookup_own_ok_int _ rfl _ _ 45 rfl 9 3 .i64 lawK Tryd.underlying45 Tryd.underlying3 (zeroInt _) m n1 wordsD rfl hown _ _ rfl hkl ?_; intro c _ _; rw [hhas])
      (try simp only [Exit.inBlock, Exit.then])
      refine bodyPost_ret (v := .tuple #[tkv 0 0 0, .int .i64 2]) ?_ rfl ?_
      · rw [results_cell_tmp rfl]
        unfold tkv
        go_simp
      · go_light
        have hg2 := (World.grownBy_alloc w _ _).trans hg1
        refine ⟨⟨rfl, by decide, i + k, by omega, ?_⟩, ?_⟩
        · repeat (first | with_reducible exact hR2 | with_reducible refine Rd.other ?_ (by show ¬ b = w.heap.size; omega) _)
        · repeat (first | with_reducible exact hg2 | with_reducible refine gset ?_ (.inl (Nat.le_refl _)) _)
    · rw [if_neg h40]
      have h40' : decide ((40 : Int) < (x.size : Int)) = false := by rw [decide_eq_false_iff_not]; omega
      clear hes
      go_enter Tryd.func43, Tryd.ntmps43
      go_wp2_with (go_at_call 37; refine hT.mono ?_; rintro e w1 ⟨rfl, hR2, hg1⟩; refine Hid.out ?_)
      have h6 := Six.of hg1 (fun e => by have := Option.some.inj e; omega)
      obtain ⟨⟨x0, c0⟩, ⟨x1, c1⟩, ⟨x2, c2⟩, ⟨x3, c3⟩, ⟨x4, c4⟩, ⟨x5, c5⟩⟩ := h6.c
      have f0 := h6.f 0
      have f1 := h6.f 1
      have f2 := h6.f 2
      have f3 := h6.f 3
      have f4 := h6.f 4
      have f5 := h6.f 5
      have r2 := hR2.c2
      obtain ⟨n1, hown⟩ := hW1.kept hg1 (fun e => hbm (Option.some.inj e))
      refine Lib.hid ?_
      go_wp2_with (at_lookup; refine wpList_lookup_own_ok_int _ rfl _ _ 45 rfl 9 3 .i64 lawK Tryd.underlying45 Tryd.underlying3 (zeroInt _) m n1 wordsD rfl hown _ _ rfl hkl ?_; intro c _ _; rw [hhas])
      (try simp only [Exit.inBlock, Exit.then])
      refine bodyPost_ret (v := .tuple #[tkv 1 0 0, .int .i64 0]) ?_ rfl ?_
      · rw [results_cell_tmp rfl]
        unfold tkv
        go_simp
      · go_light
        have hg2 := (World.grownBy_alloc w _ _).trans hg1
        refine ⟨⟨rfl, by omega, ?_⟩, ?_⟩
        · repeat (first | with_reducible exact hR2 | with_reducible refine Rd.other ?_ (by show ¬ b = w.heap.size; omega) _)
        · repeat (first | with_reducible exact hg2 | with_reducible refine gset ?_ (.inl (Nat.le_refl _)) _)

end Go.Proofs.YtbiplgidlmbbkaaDoor
