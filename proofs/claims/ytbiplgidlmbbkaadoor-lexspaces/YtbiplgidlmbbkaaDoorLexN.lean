/- lex's numbers: what the library's Atoi and ParseUint tell of rows of digits; and the walks of greatest, plainNumber and numberOf. -/
import Derived.Test.YtbiplgidlmbbkaaDoorLexD
import Derived.Test.YtbiplgidlmbbkaaDoorShelf
namespace Go.Proofs.YtbiplgidlmbbkaaDoor
open Go.RowKit

namespace Lex
def digits (l : List UInt8) : Prop := ∀ c ∈ l, 48 ≤ c.toNat ∧ c.toNat ≤ 57
/-- the number that digits are, behind others -/
def fv (a : Nat) (l : List UInt8) : Nat := l.foldl (fun a c => a * 10 + (c.toNat - 48)) a
theorem fv_cons (a : Nat) (c : UInt8) (r : List UInt8) : fv a (c :: r) = fv (a * 10 + (c.toNat - 48)) r := by simp only [fv, List.foldl_cons]
theorem fv_nil (a : Nat) : fv a [] = a := rfl
theorem numVal_eq (l : List UInt8) : numVal l = fv 0 l := rfl
theorem fv_ge : ∀ (l : List UInt8) (a : Nat), a ≤ fv a l
  | [], a => Nat.le_refl _
  | c :: r, a => by rw [fv_cons]; have := fv_ge r (a * 10 + (c.toNat - 48)); omega
theorem fv_lt : ∀ (l : List UInt8) (a : Nat), digits l → fv a l < (a + 1) * 10 ^ l.length
  | [], a, _ => by simp [fv_nil]
  | c :: r, a, h => by
    rw [fv_cons, List.length_cons, Nat.pow_succ]
    have h1 := fv_lt r (a * 10 + (c.toNat - 48)) (fun x hx => h x (by simp [hx]))
    have h2 := h c (by simp)
    have h3 : a * 10 + (c.toNat - 48) + 1 ≤ (a + 1) * 10 := by omega
    have h4 := Nat.mul_le_mul_right (10 ^ r.length) h3
    have e : (a + 1) * (10 ^ r.length * 10) = (a + 1) * 10 * 10 ^ r.length := by rw [Nat.mul_comm (10 ^ r.length) 10, Nat.mul_assoc]
    omega
theorem numVal_lt (l : List UInt8) (h : digits l) : numVal l < 10 ^ l.length := by
  have := fv_lt l 0 h
  rw [numVal_eq]; omega

theorem parseUintM_digits : ∀ (l : List UInt8) (a : Nat), digits l → a ≤ 18446744073709551615 →
    Go.Lib.parseUintM 18446744073709551615 a l = if fv a l ≤ 18446744073709551615 then .ok (fv a l) else .range
  | [], a, _, ha => by simp [Go.Lib.parseUintM, fv_nil, ha]
  | c :: r, a, h, ha => by
    have h2 := h c (by simp)
    have hr : digits r := fun x hx => h x (by simp [hx])
    have hg := fv_ge r (a * 10 + (c.toNat - 48))
    rw [Go.Lib.parseUintM, if_pos h2, fv_cons]
    split
    · rw [if_neg (by omega)]
    · split
      · rw [if_neg (by omega)]
      · exact parseUintM_digits r _ hr (by omega)
theorem parseUintB_digits (l : List UInt8) (hne : l ≠ []) (h : digits l) : Go.Lib.parseUintB 64 l = if numVal l ≤ 18446744073709551615 then .ok (numVal l) else .range := by
  unfold Go.Lib.parseUintB
  rw [if_neg hne, numVal_eq]
  exact parseUintM_digits l 0 h (by omega)
theorem parseUint10_digits : ∀ (l : List UInt8) (a : Nat), digits l → a ≤ 18446744073709551615 →
    Go.Lib.parseUint10 a l = if fv a l ≤ 18446744073709551615 then .ok (fv a l) else .range
  | [], a, _, ha => by simp [Go.Lib.parseUint10, fv_nil, ha]
  | c :: r, a, h, ha => by
    have h2 := h c (by simp)
    have hr : digits r := fun x hx => h x (by simp [hx])
    have hg := fv_ge r (a * 10 + (c.toNat - 48))
    rw [Go.Lib.parseUint10, if_pos h2, fv_cons]
    split
    · rw [if_neg (by omega)]
    · split
      · rw [if_neg (by omega)]
      · exact parseUint10_digits r _ hr (by omega)
theorem atoi_digits (l : List UInt8) (hne : l ≠ []) (h : digits l) : Go.Lib.atoiAll l = if numVal l < 9223372036854775808 then .ok (numVal l : Int) else .range := by
  match l, hne, h with
  | c :: r, _, h =>
    have h2 := h c (by simp)
    have e1 : ¬ (c.toNat = 43 ∨ c.toNat = 45) := by omega
    have e2 : ¬ c.toNat = 45 := by omega
    unfold Go.Lib.atoiAll Go.Lib.parseMag
    dsimp only
    rw [if_neg e1, if_neg (by simp), parseUint10_digits _ 0 h (by omega), ← numVal_eq]
    by_cases h3 : numVal (c :: r) ≤ 18446744073709551615
    · rw [if_pos h3]
      dsimp only
      by_cases h4 : numVal (c :: r) < 9223372036854775808
      · rw [if_pos h4, if_neg (by omega), if_neg (by omega), if_neg e2]
      · rw [if_neg h4, if_pos (by omega)]
    · rw [if_neg h3, if_neg (by omega)]
end Lex

theorem top_wid (k : Int) (h2 : 2 ≤ k) (h9 : k ≤ 9) : k = 2 ∨ k = 3 ∨ k = 4 ∨ k = 5 ∨ k = 6 ∨ k = 7 ∨ k = 8 ∨ k = 9 := by omega

set_option maxHeartbeats 800000 in
theorem greatest_any (k : Int) (h2 : 2 ≤ k) (h9 : k ≤ 9) (w : World) :
    Calls Tryd.prog 51 #[.int .i64 k] w fun e w' => e = .returned (.int .u64 (Lex.top k)) ∧ w' = w := by
  rcases top_wid k h2 h9 with rfl | rfl | rfl | rfl | rfl | rfl | rfl | rfl
  · have hW := fun wx => width_any 2 wx
    rw [show Bv.wid 2 = 8 by decide] at hW
    go_enter Tryd.func51, Tryd.ntmps51
    go_wp2_with (go_at_call 56; refine (hW _).mono ?_; rintro e w' ⟨rfl, rfl⟩)
    all_goals go_ret
    all_goals exact ⟨ret_int (by decide), rfl⟩
  · have hW := fun wx => width_any 3 wx
    rw [show Bv.wid 3 = 16 by decide] at hW
    go_enter Tryd.func51, Tryd.ntmps51
    go_wp2_with (go_at_call 56; refine (hW _).mono ?_; rintro e w' ⟨rfl, rfl⟩)
    all_goals go_ret
    all_goals exact ⟨ret_int (by decide), rfl⟩
  · have hW := fun wx => width_any 4 wx
    rw [show Bv.wid 4 = 32 by decide] at hW
    go_enter Tryd.func51, Tryd.ntmps51
    go_wp2_with (go_at_call 56; refine (hW _).mono ?_; rintro e w' ⟨rfl, rfl⟩)
    all_goals go_ret
    all_goals exact ⟨ret_int (by decide), rfl⟩
  · have hW := fun wx => width_any 5 wx
    rw [show Bv.wid 5 = 64 by decide] at hW
    go_enter Tryd.func51, Tryd.ntmps51
    go_wp2_with (go_at_call 56; refine (hW _).mono ?_; rintro e w' ⟨rfl, rfl⟩)
    all_goals go_ret
    all_goals exact ⟨ret_int (by decide), rfl⟩
  · have hW := fun wx => width_any 6 wx
    rw [show Bv.wid 6 = 8 by decide] at hW
    go_enter Tryd.func51, Tryd.ntmps51
    go_wp2_with (go_at_call 56; refine (hW _).mono ?_; rintro e w' ⟨rfl, rfl⟩)
    all_goals go_ret
    all_goals exact ⟨ret_int (by decide), rfl⟩
  · have hW := fun wx => width_any 7 wx
    rw [show Bv.wid 7 = 16 by decide] at hW
    go_enter Tryd.func51, Tryd.ntmps51
    go_wp2_with (go_at_call 56; refine (hW _).mono ?_; rintro e w' ⟨rfl, rfl⟩)
    all_goals go_ret
    all_goals exact ⟨ret_int (by decide), rfl⟩
  · have hW := fun wx => width_any 8 wx
    rw [show Bv.wid 8 = 32 by decide] at hW
    go_enter Tryd.func51, Tryd.ntmps51
    go_wp2_with (go_at_call 56; refine (hW _).mono ?_; rintro e w' ⟨rfl, rfl⟩)
    all_goals go_ret
    all_goals exact ⟨ret_int (by decide), rfl⟩
  · have hW := fun wx => width_any 9 wx
    rw [show Bv.wid 9 = 64 by decide] at hW
    go_enter Tryd.func51, Tryd.ntmps51
    go_wp2_with (go_at_call 56; refine (hW _).mono ?_; rintro e w' ⟨rfl, rfl⟩)
    all_goals go_ret
    all_goals exact ⟨ret_int (by decide), rfl⟩

/-- strconv.ErrRange holds an error -/
def LaidR (w : World) : Prop := ∃ tp p, w.cell? ⟨1, 0, none⟩ = some (.iface tp p)
theorem LaidR.on {w w' : World} {row : Option Nat} (h : LaidR w) (hg : w.grownBy w' row) (hr : row ≠ some 1) : LaidR w' := by
  obtain ⟨tp, p, h⟩ := h
  exact ⟨tp, p, hg.cell h (fun e => hr e.symm)⟩
theorem LaidR.lt {w : World} (h : LaidR w) : 1 < w.heap.size := by
  obtain ⟨tp, p, h⟩ := h
  exact World.block_lt_of_cell? w ⟨1, 0, none⟩ h
theorem grown_of_below {w w' : World} (h : Below w.heap.size w w') : w.grownBy w' none := ⟨h.os, h.tape, h.output, h.size, fun k hk _ => h.block k hk⟩

def tk0 : Obj := .cells #[.int .i64 0, .string ⟨#[]⟩, .int .i64 0, .int .i64 0, .int .i64 0, .int .i64 0] 30

/-- block b holds a token's six cells -/
def Six (w : World) (b : Nat) : Prop := ∃ x0 x1 x2 x3 x4 x5, w.heap[b]? = some (.cells #[x0, x1, x2, x3, x4, x5] 30 (0, 0))
theorem Six.of {w w1 : World} {row : Option Nat} (hg : (w.alloc tk0).grownBy w1 row) (hr : row ≠ some w.heap.size) : Six w1 w.heap.size :=
  ⟨_, _, _, _, _, _, (hg.block w.heap.size (by simp) (fun e => hr e.symm)).trans (heap_alloc_new w tk0)⟩
theorem Six.c {w : World} {b : Nat} (h : Six w b) : (∃ x, w.cell? ⟨b, 0, none⟩ = some x) ∧ (∃ x, w.cell? ⟨b, 1, none⟩ = some x) ∧ (∃ x, w.cell? ⟨b, 2, none⟩ = some x) ∧ (∃ x, w.cell? ⟨b, 3, none⟩ = some x) ∧ (∃ x, w.cell? ⟨b, 4, none⟩ = some x) ∧ (∃ x, w.cell? ⟨b, 5, none⟩ = some x) := by
  obtain ⟨x0, x1, x2, x3, x4, x5, h⟩ := h
  exact ⟨⟨_, cell_of_row w b 0 _ _ _ h⟩, ⟨_, cell_of_row w b 1 _ _ _ h⟩, ⟨_, cell_of_row w b 2 _ _ _ h⟩, ⟨_, cell_of_row w b 3 _ _ _ h⟩, ⟨_, cell_of_row w b 4 _ _ _ h⟩, ⟨_, cell_of_row w b 5 _ _ _ h⟩⟩
theorem Six.f {w : World} {b : Nat} (h : Six w b) (j : Nat) : w.frozen? ⟨b, j, none⟩ = false := by
  obtain ⟨x0, x1, x2, x3, x4, x5, h⟩ := h
  simp [World.frozen?, h]

set_option maxHeartbeats 800000 in
theorem plainNumber_ok (d : ByteArray) (hd : Lex.digits d.data.toList) (hne : d.data.toList ≠ []) (h9 : d.size ≤ 9) (w : World) :
    Calls Tryd.prog 46 #[.string d] w fun e w' => e = .returned (.tuple #[tkv 2 (Lex.numVal d.data.toList) 0, .int .i64 0]) ∧ w.grownBy w' none := by
  have ha := Lex.atoi_digits d.data.toList hne hd
  have hlen : d.data.toList.length = d.size := by simp
  have hv : Lex.numVal d.data.toList < 1000000000 := by
    have h1 := Lex.numVal_lt _ hd
    have h2 : 10 ^ d.data.toList.length ≤ 10 ^ 9 := Nat.pow_le_pow_right (by decide) (by omega)
    have h3 : (10 : Nat) ^ 9 = 1000000000 := by decide
    omega
  rw [if_pos (by omega)] at ha
  have hA : Calls Tryd.prog 49 #[.string d] (w.alloc tk0) fun e w' => e = .returned (.tuple #[.int .i64 (Lex.numVal d.data.toList), .nilIface]) ∧ (w.alloc tk0).grownBy w' none :=
    (Tryd.strconv_Atoi_ok d (by omega) _ ha _).mono fun e w' ⟨he, hw⟩ => ⟨he, by
      rcases hw with rfl | ⟨t, rfl⟩
      · exact World.grownBy.refl _ _
      · exact grown_of_below (Lib.bytesWorld_below _ _ _)⟩
  generalize Lex.numVal d.data.toList = nv at hA hv
  clear ha
  obtain ⟨z, hz⟩ : ∃ z : Int, z = (nv : Int) := ⟨_, rfl⟩
  rw [← hz] at hA ⊢
  clear hz hv
  unfold tk0 at hA
  have h9' : decide ((9 : Int) < (d.size : Int)) = false := by rw [decide_eq_false_iff_not]; omega
  go_enter Tryd.func46, Tryd.ntmps46
  go_wp2_with (go_at_call 49; refine hA.mono ?_; rintro e w1 ⟨rfl, hg1⟩; refine Hid.out ?_)
  have h6 := Six.of hg1 (by simp)
  obtain ⟨⟨x0, c0⟩, ⟨x1, c1⟩, ⟨x2, c2⟩, ⟨x3, c3⟩, ⟨x4, c4⟩, ⟨x5, c5⟩⟩ := h6.c
  have f0 := h6.f 0
  have f1 := h6.f 1
  have f2 := h6.f 2
  have f3 := h6.f 3
  have f4 := h6.f 4
  have f5 := h6.f 5
  refine Lib.hid ?_
  go_wp2
  (try simp only [Exit.inBlock, Exit.then])
  refine bodyPost_ret (v := .tuple #[tkv 2 z 0, .int .i64 0]) ?_ rfl ?_
  · rw [results_cell_tmp rfl]
    unfold tkv
    go_simp
  · go_light
    have hg2 : w.grownBy w1 none := (World.grownBy_alloc w _ none).trans hg1
    refine ⟨rfl, ?_⟩
    repeat (first | with_reducible exact hg2 | with_reducible refine gset ?_ (.inl (Nat.le_refl _)) _)

set_option maxHeartbeats 800000 in
theorem plainNumber_bad (d : ByteArray) (hd : Lex.digits d.data.toList) (hne : d.data.toList ≠ []) (h9 : 9 < d.size) (hsz : d.size ≤ 65536) (w : World) (hl : LaidR w) :
    Calls Tryd.prog 46 #[.string d] w fun e w' => e = .returned (.tuple #[tkv 0 0 0, .int .i64 11]) ∧ w.grownBy w' none := by
  have ha := Lex.atoi_digits d.data.toList hne hd
  have hl1 := hl.on (World.grownBy_alloc w tk0 none) (by simp)
  have h9' : decide ((9 : Int) < (d.size : Int)) = true := by rw [decide_eq_true_iff]; omega
  by_cases hv : Lex.numVal d.data.toList < 9223372036854775808
  · rw [if_pos hv] at ha
    have hA : Calls Tryd.prog 49 #[.string d] (w.alloc tk0) fun e w' => e = .returned (.tuple #[.int .i64 (Lex.numVal d.data.toList), .nilIface]) ∧ (w.alloc tk0).grownBy w' none :=
      (Tryd.strconv_Atoi_ok d (by omega) _ ha _).mono fun e w' ⟨he, hw⟩ => ⟨he, by
        rcases hw with rfl | ⟨t, rfl⟩
        · exact World.grownBy.refl _ _
        · exact grown_of_below (Lib.bytesWorld_below _ _ _)⟩
    generalize Lex.numVal d.data.toList = nv at hA hv
    clear ha
    obtain ⟨z, hz⟩ : ∃ z : Int, z = (nv : Int) := ⟨_, rfl⟩
    rw [← hz] at hA
    clear hz hv
    unfold tk0 at hA
    go_enter Tryd.func46, Tryd.ntmps46
    go_wp2_with (go_at_call 49; refine hA.mono ?_; rintro e w1 ⟨rfl, hg1⟩; refine Hid.out ?_)
    have h6 := Six.of hg1 (by simp)
    obtain ⟨⟨x0, c0⟩, ⟨x1, c1⟩, ⟨x2, c2⟩, ⟨x3, c3⟩, ⟨x4, c4⟩, ⟨x5, c5⟩⟩ := h6.c
    have f0 := h6.f 0
    have f1 := h6.f 1
    have f2 := h6.f 2
    have f3 := h6.f 3
    have f4 := h6.f 4
    have f5 := h6.f 5
    refine Lib.hid ?_
    go_wp2
    (try simp only [Exit.inBlock, Exit.then])
    refine bodyPost_ret (v := .tuple #[tkv 0 0 0, .int .i64 11]) ?_ rfl ?_
    · rw [results_cell_tmp rfl]
      unfold tkv
      go_simp
    · go_light
      have hg2 : w.grownBy w1 none := (World.grownBy_alloc w _ none).trans hg1
      refine ⟨rfl, ?_⟩
      repeat (first | with_reducible exact hg2 | with_reducible refine gset ?_ (.inl (Nat.le_refl _)) _)
  · rw [if_neg hv] at ha
    obtain ⟨tp, p, hcell⟩ := hl1
    have hA : Calls Tryd.prog 49 #[.string d] (w.alloc tk0) fun e w' => ∃ N, e = .returned (.tuple #[.int .i64 (Lib.atoiSat d.data.toList), .iface 87 (.pointer (some ⟨N, 0, none⟩))]) ∧ (w.alloc tk0).grownBy w' none :=
      (Tryd.strconv_Atoi_range d (by omega) ha _ _ hcell (.inr ⟨tp, p, rfl⟩)).mono fun e w' ⟨N, he, _, _, hb⟩ => ⟨N, he, grown_of_below hb⟩
    generalize Lib.atoiSat d.data.toList = z at hA
    clear ha hv hcell
    unfold tk0 at hA
    go_enter Tryd.func46, Tryd.ntmps46
    go_wp2_with (go_at_call 49; refine hA.mono ?_; rintro e w1 ⟨N, rfl, hg1⟩; refine Hid.out ?_)
    have h6 := Six.of hg1 (by simp)
    obtain ⟨⟨x0, c0⟩, ⟨x1, c1⟩, ⟨x2, c2⟩, ⟨x3, c3⟩, ⟨x4, c4⟩, ⟨x5, c5⟩⟩ := h6.c
    have f0 := h6.f 0
    have f1 := h6.f 1
    have f2 := h6.f 2
    have f3 := h6.f 3
    have f4 := h6.f 4
    have f5 := h6.f 5
    refine Lib.hid ?_
    go_wp2
    (try simp only [Exit.inBlock, Exit.then])
    refine bodyPost_ret (v := .tuple #[tkv 0 0 0, .int .i64 11]) ?_ rfl ?_
    · rw [results_cell_tmp rfl]
      unfold tkv
      go_simp
    · go_light
      have hg2 : w.grownBy w1 none := (World.grownBy_alloc w _ none).trans hg1
      refine ⟨rfl, ?_⟩
      repeat (first | with_reducible exact hg2 | with_reducible refine gset ?_ (.inl (Nat.le_refl _)) _)

end Go.Proofs.YtbiplgidlmbbkaaDoor
