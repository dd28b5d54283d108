/- A copy of a list; RateTables. -/
import Derived.Test.YtncbaeephnahjaaRaU
namespace Go.Proofs.Ytncbaeephnahjaa
open Go.RowKit Go.Maps Go.WideMaps Go.Shelf
open Rat (okP baseF baseM toN per off isOn cst tot Best)

theorem wpList_append_run {P : Program} {w w' : World} {ops : Array Oper} {rest : List Oper} {o : Oper} {a : Act} {Q : Exit → Act → World → Prop} (hgd : o.guard = none) (s x : Operand) (t : TypeId)
    (ho : o.op = .call { callee := .builtin .append, args := #[s, x], argTypes := #[t, t] }) (vs vx v' : Value) (hs : a.eval s = vs) (hx : a.eval x = vx) (hr : (Builtin.append_ #[t, t] o.type #[vs, vx]).run P w = .ok v' w')
    (h : wpList P ops Q rest (a.put o.dst v') w') : wpList P ops Q (o :: rest) a w :=
  wpList_plain hgd fun K hK => by
    unfold Oper.wp execOp
    simp only [ho, resolve, invoke, builtin, Sem.run_bind, Sem.run_pure, Result.andThen_ok, List.map_toArray, List.map_cons, List.map_nil, hs, hx, hr]
    exact hK _ _ h
theorem info_pair : (Try.prog.info? 35).map (fun i => (i.size, i.bytes, i.zero)) = some (2, 16, some (.agg #[.int .i64 0, .int .i64 0])) := by kernel_rfl
theorem info_int : (Try.prog.info? 3).map (fun i => (i.size, i.bytes, i.zero)) = some (1, 8, some (.int .i64 0)) := by kernel_rfl
def pc : List (Int × Int) → List Value
  | [] => []
  | x :: l => .int .i64 x.1 :: .int .i64 x.2 :: pc l
theorem pc_len : ∀ l : List (Int × Int), (pc l).length = l.length * 2
  | [] => rfl
  | x :: l => by simp [pc, pc_len l]; omega
theorem pc_at : ∀ (l : List (Int × Int)) (i : Nat) (x : Int × Int), l[i]? = some x → (pc l)[i * 2]? = some (.int .i64 x.1) ∧ (pc l)[i * 2 + 1]? = some (.int .i64 x.2)
  | [], i, x, h => by simp at h
  | y :: l, 0, x, h => by simp at h; subst h; simp [pc]
  | y :: l, i + 1, x, h => by
    have := pc_at l i x (by simpa using h)
    rw [show (i + 1) * 2 = i * 2 + 1 + 1 by omega]
    simpa [pc] using this
theorem pc_inv : ∀ (l : List (Int × Int)) (j : Nat) (u : Value), (pc l)[j]? = some u → ∃ x, l[j / 2]? = some x ∧ u = (if j % 2 = 0 then .int .i64 x.1 else .int .i64 x.2)
  | [], j, u, h => by simp [pc] at h
  | y :: l, 0, u, h => by simp [pc] at h; exact ⟨y, by simp, by simp [h]⟩
  | y :: l, 1, u, h => by simp [pc] at h; exact ⟨y, by simp, by simp [h]⟩
  | y :: l, j + 2, u, h => by
    obtain ⟨x, h1, h2⟩ := pc_inv l j u (by simpa [pc] using h)
    refine ⟨x, ?_, ?_⟩
    · rw [show (j + 2) / 2 = j / 2 + 1 by omega]; simpa using h1
    · rw [show (j + 2) % 2 = j % 2 by omega]; exact h2
theorem pc_one (l : List (Int × Int)) : ∀ u ∈ pc l, u.oneCell' = true := by
  intro u hu
  obtain ⟨j, hj⟩ := List.getElem?_of_mem hu
  obtain ⟨x, _, rfl⟩ := pc_inv l j u hj
  split <;> rfl
theorem own_pairs {w : World} {B n : Nat} {v : Value} {l : List (Int × Int)} (h : w.ownsRow B 35 2 v n (pc l)) (hl : l.length = n) : ∃ a c, v = .slice a n c ∧ PairsI w a l := by
  rcases h.2 with ⟨rfl, e⟩ | ⟨g, cap, cur, rfl, _, c1, _, _, _, ht⟩
  · subst e
    exact ⟨none, 0, rfl, fun i x hx => by have := (List.getElem?_eq_some_iff.1 hx).1; omega⟩
  · refine ⟨_, _, rfl, fun i x hx => ⟨g, 0, rfl, ?_, ?_⟩⟩
    · have h1 := (pc_at l i x hx).1
      rw [← ht, List.getElem?_take] at h1
      rw [Nat.zero_add, cell_of_row w g _ _ _ _ c1]
      split at h1
      · simpa using h1
      · cases h1
    · have h1 := (pc_at l i x hx).2
      rw [← ht, List.getElem?_take] at h1
      rw [Nat.zero_add, cell_of_row w g _ _ _ _ c1]
      split at h1
      · simpa using h1
      · cases h1
theorem app_pairs (w : World) (la : Option Addr) (lc : Nat) (l : List (Int × Int)) (h : PairsI w la l) (hn : l.length ≤ 1000) (ty : TypeId) :
    ∃ a c w', (Builtin.append_ #[22, 22] ty #[.slice none 0 0, .slice la l.length lc]).run Try.prog w = .ok (.slice a l.length c) w' ∧ w.grownBy w' none ∧ PairsI w' a l := by
  obtain ⟨it, hit, hz, hsz, hby⟩ := infoP info_pair
  cases la with
  | none =>
    have hl : l.length = 0 := by
      cases l with
      | nil => rfl
      | cons x r => obtain ⟨g, o, e, _⟩ := h 0 x (by simp); cases e
    refine ⟨none, 0, w, ?_, World.grownBy.refl _ _, h⟩
    rw [hl]
    simp [Builtin.append_, run_underlying Try.underlying22, sizeOf, typeInfo, hit, Builtin.lenOf, Builtin.firstCells]
  | some ad =>
    have hnews : ∀ j u, (pc l)[j]? = some u → w.cell? (ad.add j) = some u := by
      intro j u hu
      obtain ⟨x, h1, rfl⟩ := pc_inv l j u hu
      obtain ⟨g, o, e, c0, c1⟩ := h _ x h1
      injection e with e
      subst e
      rw [addr_plain]
      split
      · rw [show o + j = o + j / 2 * 2 by omega]; exact c0
      · rw [show o + j = o + j / 2 * 2 + 1 by omega]; exact c1
    obtain ⟨v', w', q1, q2, q3, _⟩ := run_append_own (P := Try.prog) w w.heap.size 22 ty 35 it _ 2 16 Try.underlying22 hit hz hsz hby rfl (by decide) (.slice none 0 0) 0 [] (World.ownsRow_nil _ _ _ _) ad l.length lc (pc l) (pc_len l) hnews (pc_one l) (by unfold maxLen; omega) (by omega) (Nat.le_refl _)
    rw [Nat.zero_add, List.nil_append] at q2
    obtain ⟨a, c, rfl, hp⟩ := own_pairs q2 rfl
    exact ⟨a, c, w', q1, q3, hp⟩

/-- both tables, by what the base period says -/
theorem table_bad {l : List (Int × Int)} (h0 : (baseM l).2 ≠ 0) {w : World} {e : Ending} {w' : World} (h : TPost l w e w') : e = .returned (.tuple #[.int .i64 0, .slice none 0 0, .int .i64 ((baseM l).2 : Int)]) ∧ w.grownBy w' none := by
  obtain ⟨hg, ⟨_, he⟩ | ⟨tb, h1, _⟩⟩ := h
  · exact ⟨he, hg⟩
  · exact absurd h1 h0
theorem table_good {l : List (Int × Int)} (h0 : (baseM l).2 = 0) {w : World} {e : Ending} {w' : World} (h : TPost l w e w') : ∃ rg cap, e = .returned (.tuple #[.int .i64 ((baseM l).1 : Int), .slice (some ⟨rg, 0, none⟩) (baseM l).1 cap, .int .i64 0]) ∧ RowsAt w' (.slice (some ⟨rg, 0, none⟩) (baseM l).1 cap) (baseM l).1 l.length (isOn l) ∧ w.grownBy w' none := by
  obtain ⟨hg, ⟨h1, _⟩ | ⟨tb, _, _, he, hT⟩⟩ := h
  · exact absurd h0 h1
  · exact ⟨tb, _, he, hT.rows, hg⟩
theorem rtable_bad {l : List (Int × Int)} (h0 : (baseM l).2 ≠ 0) {w : World} {e : Ending} {w' : World} (h : RPost l w e w') : e = .returned (.tuple #[.int .i64 0, .slice none 0 0, .int .i64 ((baseM l).2 : Int)]) ∧ w.grownBy w' none := by
  obtain ⟨hg, ⟨_, he⟩ | ⟨h1, _⟩⟩ := h
  · exact ⟨he, hg⟩
  · exact absurd h1 h0
theorem rtable_good {l : List (Int × Int)} (h0 : (baseM l).2 = 0) {w : World} {e : Ending} {w' : World} (h : RPost l w e w') : ∃ rg cap, e = .returned (.tuple #[.int .i64 ((baseM l).1 : Int), .slice (some ⟨rg, 0, none⟩) (baseM l).1 cap, .int .i64 0]) ∧ RowsAt w' (.slice (some ⟨rg, 0, none⟩) (baseM l).1 cap) (baseM l).1 l.length (isOn l) ∧ w.grownBy w' none := by
  obtain ⟨hg, ⟨h1, _⟩ | ⟨_, rv, he, hT⟩⟩ := h
  · exact absurd h0 h1
  · obtain ⟨rg, cap, rfl, hr⟩ := hT
    exact ⟨rg, cap, he, ⟨rg, cap, rfl, hr⟩, hg⟩
/-- one place of a table -/
theorem RowsAt.at {A : World} {rg cap b n : Nat} {on : Nat → Nat → Bool} (h : RowsAt A (.slice (some ⟨rg, 0, none⟩) b cap) b n on) {i : Nat} (hi : i < b) : ∃ a c, A.cell? ⟨rg, i, none⟩ = some (.slice a n c) ∧ ∀ k, k < n → ∃ g, a = some ⟨g, 0, none⟩ ∧ A.cell? ⟨g, k, none⟩ = some (.bool (on i k)) := by
  obtain ⟨rg', cap', e, h2⟩ := h
  injection e with e1
  injection e1 with e1
  injection e1 with e1
  subst e1
  exact h2 i hi

set_option maxRecDepth 100000 in
set_option maxHeartbeats 4000000 in
theorem rateTables_any (l : List (Int × Int)) (la : Option Addr) (lc : Nat) (w : World) (h : PairsI w la l) (hn : l.length ≤ maxLen) :
    Calls Try.prog 3 #[.slice la l.length lc] w fun e w' => e = .returned (.bool true) ∧ w.grownBy w' none := by
  have hal := alive_any w
  obtain ⟨L, hL⟩ : ∃ L, L = l.length := ⟨_, rfl⟩
  rw [← hL]
  rw [← hL] at hn
  have HL := Lib.hid hL
  have HP := Lib.hid h
  have hmx : L ≤ 9223372036854775807 := by unfold maxLen at hn; omega
  clear hL h hn
  by_cases h100 : 100 < L
  · go_enter Try.func3, Try.ntmps3
    go_wp2_with (go_at_call 7; refine hal.mono ?_; clear hal; rintro e w1 ⟨rfl, hg1⟩; have HG1 := Lib.hid hg1; clear hg1)
    go_ret
    exact ⟨rfl, HG1.out⟩
  · have hL1 : L ≤ 1000 := by omega
    go_enter Try.func3, Try.ntmps3
    go_wp2_with (first | (go_at_call 7; refine hal.mono ?_; clear hal; rintro e w1 ⟨rfl, hg1⟩; have HG1 := Lib.hid hg1; clear hg1) | (at_builtin; refine Hid.out ?_))
    obtain ⟨a2, c2, w2, hr, hg2, hp2⟩ := app_pairs w1 la lc l (HP.out.kept HG1.out) (by rw [← HL.out]; exact hL1) 22
    rw [← HL.out] at hr
    refine Lib.hid (wpList_append_run rfl _ _ 22 rfl _ _ _ rfl rfl hr ?_)
    have ht := table_any l a2 c2 w2 hp2 (by rw [← HL.out]; exact hL1)
    have hrt := fun V (hg : w2.grownBy V none) => rtable_any l la lc V (HP.out.kept (gtrans (gtrans HG1.out hg2) hg)) (by rw [← HL.out]; exact hL1)
    rw [← HL.out] at ht hrt
    have HG2 := Lib.hid (gtrans HG1.out hg2)
    clear hr hg2 hp2
    by_cases h0 : (baseM l).2 = 0
    · have hb := Rat.baseM_all h0
      replace ht := ht.mono (fun e w' h => table_good h0 h)
      replace hrt := fun V hg => (hrt V hg).mono (fun e w' h => rtable_good h0 h)
      have hb5 := hb.2.1
      have hbp := hb.2.2.1
      obtain ⟨b, hbe⟩ : ∃ b, b = (baseM l).1 := ⟨_, rfl⟩
      rw [← hbe] at ht hrt hb5 hbp
      rw [← HL.out] at ht hrt
      have hnum := num_any 0
      have HB := Lib.hid hbe
      clear hb hbe h0
      go_wp2_with (first | (go_at_call 8; refine ht.mono ?_; clear ht; rintro e w3 ⟨r1, c1, rfl, hR1, hg3⟩; have hrt1 := hrt w3 hg3; have H3 := Lib.hid (And.intro hR1 hg3); clear hR1 hg3 hrt) | (go_at_call 9; refine hrt1.mono ?_; clear hrt1; rintro e w4 ⟨r2, c2', rfl, hR2, hg4⟩; have H4 := Lib.hid (And.intro hR2 hg4); clear hR2 hg4) | (go_at_call 10; refine (hnum _).mono ?_; clear hnum; rintro e w5 ⟨rfl, rfl⟩))
      have HI : Hid (RowsAt w5 (.slice (some ⟨r1, 0, none⟩) b c1) b L (isOn l) ∧ RowsAt w5 (.slice (some ⟨r2, 0, none⟩) b c2') b L (isOn l) ∧ w.grownBy w5 none) := Lib.hid ⟨H3.out.1.kept H4.out.2, H4.out.1, gtrans (gtrans HG2.out H3.out.2) H4.out.2⟩
      clear H3 H4 HG2
      go_loopw [10] (fun iv V => ∃ i : Nat, i ≤ b ∧ iv = .int .i64 (i : Int) ∧ Hid (RowsAt V (.slice (some ⟨r1, 0, none⟩) b c1) b L (isOn l) ∧ RowsAt V (.slice (some ⟨r2, 0, none⟩) b c2') b L (isOn l) ∧ w.grownBy V none)) (fun iv _ => b - (intOf iv).toNat)
      case atStart => exact ⟨0, Nat.zero_le _, rfl, HI⟩
      case round =>
        obtain ⟨i, hi, rfl, HV⟩ := hrel
        clear HI
        by_cases hlt : i < b
        · obtain ⟨x1, y1, d1, _⟩ := HV.out.1.at hlt
          have hL100 : L ≤ 100 := by omega
          go_wp2
          go_loopw [11] (fun kv V => ∃ k : Nat, k ≤ L ∧ kv = .int .i64 (k : Int) ∧ Hid (RowsAt V (.slice (some ⟨r1, 0, none⟩) b c1) b L (isOn l) ∧ RowsAt V (.slice (some ⟨r2, 0, none⟩) b c2') b L (isOn l) ∧ w.grownBy V none)) (fun kv _ => L - (intOf kv).toNat)
          case atStart => exact ⟨0, Nat.zero_le _, rfl, HV⟩
          case round =>
            obtain ⟨k, hk, rfl, HV2⟩ := hrel
            clear HV d1
            by_cases hlt2 : k < L
            · obtain ⟨e1, f1, d1, g1⟩ := HV2.out.1.at hlt
              obtain ⟨e2, f2, d2, g2⟩ := HV2.out.2.1.at hlt
              obtain ⟨p1, rfl, q1⟩ := g1 k hlt2
              obtain ⟨p2, rfl, q2⟩ := g2 k hlt2
              clear g1 g2
              generalize isOn l i k = X at q1 q2
              go_wp2
              go_region
              go_wp2
              exact ⟨⟨k + 1, by omega, by go_num, Lib.hid ⟨HV2.out.1.kept (gdrew _ _), HV2.out.2.1.kept (gdrew _ _), gdd HV2.out.2.2⟩⟩, by simp [intOf]; omega⟩
            · go_wp2
              exact ⟨⟨i + 1, by omega, by go_num, HV2⟩, by simp [intOf]; omega⟩
        · go_wp2
          go_ret
          exact ⟨rfl, HV.out.2.2⟩
    · have hb := (Rat.baseM_bad h0).2
      replace ht := ht.mono (fun e w' h => table_bad h0 h)
      replace hrt := fun V hg => (hrt V hg).mono (fun e w' h => rtable_bad h0 h)
      have hnum := num_any ((baseM l).2 : Int)
      obtain ⟨er, hE⟩ : ∃ er, er = (baseM l).2 := ⟨_, rfl⟩
      rw [← hE] at ht hrt hb hnum
      have hle : er ≤ 2 := by omega
      clear hb hE h0
      go_wp2_with (first | (go_at_call 8; refine ht.mono ?_; clear ht; rintro e w3 ⟨rfl, hg3⟩; have hrt1 := hrt w3 hg3; have H3 := Lib.hid hg3; clear hg3 hrt) | (go_at_call 9; refine hrt1.mono ?_; clear hrt1; rintro e w4 ⟨rfl, hg4⟩; have H4 := Lib.hid hg4; clear hg4) | (go_at_call 10; refine (hnum _).mono ?_; clear hnum; rintro e w5 ⟨rfl, rfl⟩))
      refine wp_loop_once ?_
      go_wp2
      go_ret
      exact ⟨rfl, gtrans (gtrans HG2.out H3.out) H4.out⟩
end Go.Proofs.Ytncbaeephnahjaa
