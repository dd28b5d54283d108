/- Words with blanks, lines and comments between them: the walk of the statement. -/
import Derived.Test.YtbiplgidlmbbkaaDoorLexQ
import Derived.Test.YtbiplgidlmbbkaaDoorLexTr
namespace Go.Proofs.YtbiplgidlmbbkaaDoor
open Go.RowKit Go.Maps Go.WideMaps

/-- what is known of a slice of texts that came in -/
def IsStrs (w : World) (a : Option Addr) (len : Nat) (S : Nat → ByteArray) : Prop :=
  len = 0 ∨ ∃ b off, a = some ⟨b, off, none⟩ ∧ ∀ i, i < len → w.cell? ⟨b, off + i, none⟩ = some (.string (S i))
/-- what is known of a slice of numbers that came in -/
def IsInts (w : World) (a : Option Addr) (len : Nat) (Z : Nat → Int) : Prop :=
  len = 0 ∨ ∃ b off, a = some ⟨b, off, none⟩ ∧ ∀ i, i < len → w.cell? ⟨b, off + i, none⟩ = some (.int .i64 (Z i))

def sepB (g : Nat) : ByteArray := ⟨(Lex.sepL g).toArray⟩
namespace Lex
theorem glue1_snoc (ps : List (Nat × Nat × List UInt8)) (x : Nat × Nat × List UInt8) : glue1 (ps ++ [x]) = glue1 ps ++ (sepL x.1 ++ x.2.2) := by
  induction ps with
  | nil => simp [glue1]
  | cons y r ih => simp [glue1, ih]
theorem glue2_snoc (ps : List (Nat × Nat × List UInt8)) (x : Nat × Nat × List UInt8) : glue2 (ps ++ [x]) = glue2 ps ++ (sepL x.2.1 ++ x.2.2) := by
  induction ps with
  | nil => simp [glue2]
  | cons y r ih => simp [glue2, ih]
/-- words of at most a hundred bytes, none of them 10 or 45 -/
def Fine (ps : List (Nat × Nat × List UInt8)) : Prop := ∀ x ∈ ps, x.1 = 0 ∧ x.2.2.length ≤ 100 ∧ ∀ c ∈ x.2.2, plain c = true
theorem sepL_len (g : Nat) : (sepL g).length ≤ 9 := by
  unfold sepL; repeat' split
  all_goals decide
theorem glue1_len {ps : List (Nat × Nat × List UInt8)} (h : Fine ps) : (glue1 ps).length ≤ 109 * ps.length := by
  induction ps with
  | nil => simp [glue1]
  | cons x r ih =>
    have h1 := ih (fun y hy => h y (by simp [hy]))
    have h2 := (h x (by simp)).2.1
    have h3 := sepL_len x.1
    simp only [glue1, List.length_append, List.length_cons]; omega
theorem glue2_len {ps : List (Nat × Nat × List UInt8)} (h : Fine ps) : (glue2 ps).length ≤ 109 * ps.length := by
  induction ps with
  | nil => simp [glue2]
  | cons x r ih =>
    have h1 := ih (fun y hy => h y (by simp [hy]))
    have h2 := (h x (by simp)).2.1
    have h3 := sepL_len x.2.1
    simp only [glue2, List.length_append, List.length_cons]; omega
end Lex

theorem and3 (n : Int) : bits .and .i64 n 3 = n % 4 := by
  have h1 : (BitVec.ofInt 64 3).toNat = 2 ^ 2 - 1 := by decide
  have key : (BitVec.ofInt 64 n &&& BitVec.ofInt 64 3).toNat = (n % ((2 ^ 64 : Nat) : Int)).toNat % 2 ^ 2 := by
    rw [BitVec.toNat_and, BitVec.toNat_ofInt, h1, Nat.and_two_pow_sub_one_eq_mod]
  show IntKind.i64.wrap ((BitVec.ofInt 64 n &&& BitVec.ofInt 64 3).toNat : Nat) = n % 4
  rw [key, IntKind.wrap_i64]
  omega
theorem sp_step {ps : List (Nat × Nat × List UInt8)} {t : Nat} {A B s : ByteArray} {w wr : World} (g : Nat) (h : ps.length = t ∧ A.data.toList = Lex.glue1 ps ∧ B.data.toList = Lex.glue2 ps ∧ Lex.Fine ps ∧ w.grownBy wr none) (hs : s.size ≤ 100) (hp : ∀ c ∈ s.data.toList, Lex.plain c = true) {w' : World} (hw : w.grownBy w' none) :
    (ps ++ [(0, g, s.data.toList)]).length = t + 1 ∧ (A ++ sepB 0 ++ s).data.toList = Lex.glue1 (ps ++ [(0, g, s.data.toList)]) ∧ (B ++ sepB g ++ s).data.toList = Lex.glue2 (ps ++ [(0, g, s.data.toList)]) ∧ Lex.Fine (ps ++ [(0, g, s.data.toList)]) ∧ w.grownBy w' none := by
  obtain ⟨h1, h2, h3, h4, _⟩ := h
  have hsz : s.data.toList.length = s.size := by simp
  refine ⟨by simp [h1], ?_, ?_, ?_, hw⟩
  · rw [Lex.glue1_snoc, ByteArray.data_append, ByteArray.data_append, Array.toList_append, Array.toList_append, h2, List.append_assoc]; rfl
  · rw [Lex.glue2_snoc, ByteArray.data_append, ByteArray.data_append, Array.toList_append, Array.toList_append, h3, List.append_assoc]; rfl
  · intro x hx
    rcases List.mem_append.1 hx with h | h
    · exact h4 x h
    · rw [List.mem_singleton] at h
      subst h
      exact ⟨rfl, by dsimp only; omega, hp⟩
theorem len_strs (a : Option Addr) (len cap : Nat) (ty : TypeId) (wx : World) : (Builtin.len_ #[37] ty #[.slice a len cap]).run Tryd.prog wx = .ok (.int .i64 (len : Int)) wx := by
  simp [Builtin.len_, run_underlying Tryd.underlying37, goInt, Result.andThen]
theorem len_ints (a : Option Addr) (len cap : Nat) (ty : TypeId) (wx : World) : (Builtin.len_ #[39] ty #[.slice a len cap]).run Tryd.prog wx = .ok (.int .i64 (len : Int)) wx := by
  simp [Builtin.len_, run_underlying Tryd.underlying39, goInt, Result.andThen]

theorem likes_len {l m : List Lex.Tk} (h : Lex.Likes l m) : l.length = m.length := by
  induction h with
  | nil => rfl
  | cons _ _ ih => simp [ih]
theorem likes_at {l m : List Lex.Tk} (h : Lex.Likes l m) {q : Nat} (h1 : q < l.length) (h2 : q < m.length) : l[q].like m[q] := by
  induction h generalizing q with
  | nil => simp at h1
  | cons hx _ ih =>
    cases q with
    | zero => exact hx
    | succ q => exact ih (by simpa using h1) (by simpa using h2)

set_option maxHeartbeats 1600000 in
set_option maxRecDepth 100000 in
theorem lexSpaces_walk (a0 a1 : Option Addr) (len0 cap0 len1 cap1 : Nat) (S : Nat → ByteArray) (Z : Nat → Int) (w : World) (hm0 : len0 ≤ maxLen) (h0 : IsStrs w a0 len0 S) (h1 : IsInts w a1 len1 Z) (hl : LaidR w) :
    Calls Tryd.prog 5 #[.slice a0 len0 cap0, .slice a1 len1 cap1] w fun e w' => e = .returned (.bool true) ∧ w.grownBy w' none := by
  unfold maxLen at hm0
  have hla := len_strs a0 len0 cap0
  have hlb := len_ints a1 len1 cap1
  by_cases hr : len0 ≤ 60
  · have d1 : decide ((60 : Int) < len0) = false := by rw [decide_eq_false_iff_not]; omega
    go_enter Tryd.func5, Tryd.ntmps5
    go_wp2_with (first | (go_at_call 9; refine (alive_any _ hl).mono ?_; rintro e w1 ⟨rfl, hg1⟩))
    go_loopw [6, 7, 8] (fun av bv iv wr => ∃ (t : Nat) (ps : List (Nat × Nat × List UInt8)) (A B : ByteArray), t ≤ len0 ∧ iv = .int .i64 (t : Int) ∧ av = .string A ∧ bv = .string B ∧ Hid (ps.length = t ∧ A.data.toList = Lex.glue1 ps ∧ B.data.toList = Lex.glue2 ps ∧ Lex.Fine ps ∧ w.grownBy wr none)) (fun _ _ i _ => len0 - (intOf i).toNat)
    case atStart => exact ⟨0, [], ⟨#[]⟩, ⟨#[]⟩, Nat.zero_le _, rfl, rfl, rfl, Lib.hid ⟨rfl, rfl, rfl, fun x hx => by simp at hx, hg1⟩⟩
    case round =>
      obtain ⟨t, ps, A, B, ht, rfl, rfl, rfl, HG⟩ := hrel
      by_cases hlt : t < len0
      · obtain ⟨b0, f0, rfl, hc0⟩ := h0.resolve_left (by omega)
        have hcw := hc0 t hlt
        have hc := HG.out.2.2.2.2.cell hcw (by simp)
        have hlt0 : b0 < wr.heap.size := World.block_lt_of_cell? wr _ hc
        have hne0 : ¬ b0 = wr.heap.size := by omega
        have HH1 := Lib.hid h1
        clear hcw hc0 h1 h0
        obtain ⟨s, hs⟩ : ∃ s, s = S t := ⟨_, rfl⟩
        rw [← hs] at hc
        clear hs
        have hA : A.size ≤ 7000 := by
          have e1 : A.data.toList.length = A.size := by simp
          have e2 := Lex.glue1_len HG.out.2.2.2.1
          have e3 := HG.out
          rw [← e3.2.1, e3.1] at e2
          omega
        have hB : B.size ≤ 7000 := by
          have e1 : B.data.toList.length = B.size := by simp
          have e2 := Lex.glue2_len HG.out.2.2.2.1
          have e3 := HG.out
          rw [← e3.2.2.1, e3.1] at e2
          omega
        by_cases h100 : s.size ≤ 100
        · have d2 : decide ((100 : Int) < s.size) = false := by rw [decide_eq_false_iff_not]; omega
          go_wp2
          go_loop [9] (fun kv => ∃ k : Nat, k ≤ s.size ∧ kv = .int .i64 (k : Int) ∧ Hid (∀ c ∈ s.data.toList.take k, Lex.plain c = true)) (fun k => s.size - (intOf k).toNat)
          case atStart => exact ⟨0, Nat.zero_le _, rfl, Lib.hid (by simp)⟩
          case round =>
            obtain ⟨k, hk, rfl, HK⟩ := hrel
            have hsl : s.data.toList.length = s.size := by simp
            by_cases hlk : k < s.size
            · have hx := fun wx => idx_str s k hlk (k : Int) rfl wx
              have hpk := Lex.pk_eq (l := s.data.toList) (j := k) (by omega)
              obtain ⟨n, hn⟩ : ∃ n : Int, n = (Lex.pk s.data.toList k : Int) := ⟨_, rfl⟩
              simp only [← hn] at hx
              rcases Bool.eq_false_or_eq_true (n == 10) with q1 | q1
              · clear hn hpk
                go_wp2
                go_ret
                exact ⟨rfl, HG.out.2.2.2.2⟩
              · rcases Bool.eq_false_or_eq_true (n == 45) with q2 | q2
                · clear hn hpk
                  go_wp2
                  go_ret
                  exact ⟨rfl, HG.out.2.2.2.2⟩
                · have HK2 : Hid (∀ c ∈ s.data.toList.take (k + 1), Lex.plain c = true) := by
                    refine Lib.hid ?_
                    rw [List.take_succ_eq_append_getElem (by omega)]
                    intro c hc
                    rcases List.mem_append.1 hc with h | h
                    · exact HK.out c h
                    · rw [List.mem_singleton] at h
                      subst h
                      rw [beq_eq_false_iff_ne] at q1 q2
                      unfold Lex.plain
                      rw [Bool.and_eq_true, bne_iff_ne, bne_iff_ne]
                      omega
                  clear hn hpk HK
                  go_wp2
                  go_round
                  case rel => exact ⟨k + 1, by omega, by go_num, HK2⟩
                  case measure => simp [intOf]; omega
            · have HP : Hid (∀ c ∈ s.data.toList, Lex.plain c = true) := by
                have e := HK.out
                rw [List.take_of_length_le (by omega)] at e
                exact Lib.hid e
              clear HK
              by_cases hg : t < len1
              · obtain ⟨b1, f1, rfl, hc1⟩ := HH1.out.resolve_left (by omega)
                have hcw := hc1 t hg
                have hcz := HG.out.2.2.2.2.cell hcw (by simp)
                have hb3 := and3 (Z t)
                have hg4 : bits .and .i64 (Z t) 3 = 0 ∨ bits .and .i64 (Z t) 3 = 1 ∨ bits .and .i64 (Z t) 3 = 2 ∨ bits .and .i64 (Z t) 3 = 3 := by omega
                clear hcw hc1 hb3
                rcases hg4 with hb | hb | hb | hb
                all_goals go_wp2
                all_goals go_region
                all_goals go_wp2
                all_goals go_light
                all_goals have hgr : w.grownBy (wr.alloc (Obj.cells #[Value.string ⟨#[32]⟩, Value.string ⟨#[10]⟩, Value.string ⟨#[9, 13]⟩, Value.string ⟨#[45, 45, 32, 119, 111, 114, 100, 115, 10]⟩] 9)).drew none := gdrewN (galloc HG.out.2.2.2.2 _) 1
                · exact ⟨⟨t + 1, _, _, _, by omega, by go_num, rfl, rfl, Lib.hid (sp_step 0 HG.out h100 HP.out hgr)⟩, by simp [intOf]; omega⟩
                · exact ⟨⟨t + 1, _, _, _, by omega, by go_num, rfl, rfl, Lib.hid (sp_step 1 HG.out h100 HP.out hgr)⟩, by simp [intOf]; omega⟩
                · exact ⟨⟨t + 1, _, _, _, by omega, by go_num, rfl, rfl, Lib.hid (sp_step 2 HG.out h100 HP.out hgr)⟩, by simp [intOf]; omega⟩
                · exact ⟨⟨t + 1, _, _, _, by omega, by go_num, rfl, rfl, Lib.hid (sp_step 3 HG.out h100 HP.out hgr)⟩, by simp [intOf]; omega⟩
              · go_wp2
                go_region
                go_wp2
                go_light
                have hgr : w.grownBy (wr.alloc (Obj.cells #[Value.string ⟨#[32]⟩, Value.string ⟨#[10]⟩, Value.string ⟨#[9, 13]⟩, Value.string ⟨#[45, 45, 32, 119, 111, 114, 100, 115, 10]⟩] 9)).drew none := gdrewN (galloc HG.out.2.2.2.2 _) 1
                exact ⟨⟨t + 1, _, _, _, by omega, by go_num, rfl, rfl, Lib.hid (sp_step 0 HG.out h100 HP.out hgr)⟩, by simp [intOf]; omega⟩
        · have d2 : decide ((100 : Int) < s.size) = true := by rw [decide_eq_true_iff]; omega
          go_wp2
          go_ret
          exact ⟨rfl, HG.out.2.2.2.2⟩
      · clear h0 h1
        have hG := HG.out.2.2.2.2
        have hlr := hl.on hG (by simp)
        go_wp2_with (go_at_call 10; refine (tokens_any _ _ hlr).mono ?_; rintro e w2 ⟨v1, p1, e1, rfl, hrel1, hg2⟩; refine Hid.out ?_)
        have hl2 := hlr.on hg2 (by simp)
        refine Lib.hid ?_
        go_wp2_with (go_at_call 10; refine (tokens_any _ _ hl2).mono ?_; rintro e w3 ⟨v2, p2, e2, rfl, hrel2, hg3⟩; refine Hid.out ?_)
        have hG3 : w.grownBy w3 none := (hG.trans hg2).trans hg3
        obtain ⟨k1, k2, k3, k4, _⟩ := HG.out
        have hlike := Lex.tokens_like ps (fun x hx => (k4 x hx).2.2) (by have := Lex.glue1_len k4; omega) (by have := Lex.glue2_len k4; omega)
        rw [← k2, ← k3] at hlike
        clear k1 k2 k3 k4
        cases hr1 : Lex.tokens A.data.toList with
        | err q x =>
          rw [hr1] at hrel1 hlike
          obtain ⟨rfl, rfl, rfl, -⟩ := hrel1
          cases hr2 : Lex.tokens B.data.toList with
          | ok ts => rw [hr2] at hlike; exact hlike.elim
          | err q2 x2 =>
            rw [hr2] at hrel2 hlike
            obtain ⟨rfl, rfl, rfl, -⟩ := hrel2
            have hxx : e1 = e2 := hlike
            subst hxx
            clear hlike hr1 hr2 hlr hl2
            refine Lib.hid ?_
            go_wp2_with (go_at_call 12; refine (num_any _ _).mono ?_; rintro e w9 ⟨rfl, hw9⟩; rw [hw9]; clear hw9)
            go_loop [17] (fun i => i = .int .i64 0) (fun _ => 0)
            case atStart => rfl
            case round =>
              subst hrel
              go_wp2
              go_ret
              exact ⟨rfl, hG3⟩
        | ok ts =>
          rw [hr1] at hrel1 hlike
          obtain ⟨rfl, rfl, ho1⟩ := hrel1
          cases hr2 : Lex.tokens B.data.toList with
          | err q2 x2 => rw [hr2] at hlike; exact hlike.elim
          | ok us =>
            rw [hr2] at hrel2 hlike
            obtain ⟨rfl, rfl, ho2⟩ := hrel2
            have hlk : Lex.Likes ts us := hlike
            have hll := likes_len hlk
            have hl1 := fun ty wx => len_own ho1 ty wx
            have hl5 := fun ty wx => len_own ho2 ty wx
            rw [← hll] at hl5 ho2
            have HO1 := Lib.hid (ho1.kept hg3 (by cases v1.ownBlock <;> simp))
            have HO2 := Lib.hid ho2
            have HLK := Lib.hid hlk
            have HLL := Lib.hid hll
            clear hlike hr1 hr2 hlr hl2 ho1 ho2 hlk hll
            refine Lib.hid ?_
            go_wp2_with (go_at_call 12; refine (num_any _ _).mono ?_; rintro e w9 ⟨rfl, hw9⟩; rw [hw9]; clear hw9)
            go_loopw [17] (fun i wq => ∃ t k : Nat, t ≤ ts.length ∧ i = .int .i64 (t : Int) ∧ wq = w3.drewN k) (fun i _ => ts.length - (intOf i).toNat)
            case atStart => exact ⟨0, 0, Nat.zero_le _, rfl, rfl⟩
            case round =>
              obtain ⟨q, k, hq, rfl, rfl⟩ := hrel
              by_cases hlq : q < ts.length
              · obtain ⟨g5, cap5, rfl, hb5, hg5l, hc5⟩ := own_form HO1.out (by omega)
                obtain ⟨g6, cap6, rfl, hb6, hg6l, hc6⟩ := own_form HO2.out (by omega)
                have hmx : ts.length ≤ maxLen := by
                  rcases HO1.out.2 with ⟨h, _⟩ | ⟨_, _, _, h, _, _, hc, hc2, _⟩
                  · cases h
                  · omega
                unfold maxLen at hmx
                have cA : ∀ j, j < 6 → w3.cell? ⟨g5, q * 6 + j, none⟩ = (Lex.cells ts[q])[j]? := fun j hj => by
                  rw [HO1.out.cellAt (q * 6 + j) (by omega)]; exact row_at ts q hlq j hj
                have hlu : q < us.length := by have := HLL.out; omega
                have cB : ∀ j, j < 6 → w3.cell? ⟨g6, q * 6 + j, none⟩ = (Lex.cells (us[q]'hlu))[j]? := fun j hj => by
                  rw [HO2.out.cellAt (q * 6 + j) (by omega)]; exact row_at us q hlu j hj
                obtain ⟨y1, y2, y3, y4⟩ := likes_at HLK.out hlq hlu
                obtain ⟨x, hx⟩ : ∃ x, x = ts[q] := ⟨_, rfl⟩
                obtain ⟨y, hy⟩ : ∃ y, y = us[q]'hlu := ⟨_, rfl⟩
                rw [← hx] at cA y1 y2 y3 y4
                rw [← hy] at cB y1 y2 y3 y4
                have a0' : w3.cell? ⟨g5, q * 6, none⟩ = some (.int .i64 x.kind) := cA 0 (by decide)
                have a1' : w3.cell? ⟨g5, q * 6 + 1, none⟩ = some (.string ⟨x.text.toArray⟩) := cA 1 (by decide)
                have a2' : w3.cell? ⟨g5, q * 6 + 2, none⟩ = some (.int .i64 x.n) := cA 2 (by decide)
                have a3' : w3.cell? ⟨g5, q * 6 + 3, none⟩ = some (.int .i64 x.t) := cA 3 (by decide)
                have a4' : w3.cell? ⟨g5, q * 6 + 4, none⟩ = some (.int .i64 0) := cA 4 (by decide)
                have b0' : w3.cell? ⟨g6, q * 6, none⟩ = some (.int .i64 x.kind) := by rw [y1]; exact cB 0 (by decide)
                have b1' : w3.cell? ⟨g6, q * 6 + 1, none⟩ = some (.string ⟨x.text.toArray⟩) := by rw [y2]; exact cB 1 (by decide)
                have b2' : w3.cell? ⟨g6, q * 6 + 2, none⟩ = some (.int .i64 x.n) := by rw [y3]; exact cB 2 (by decide)
                have b3' : w3.cell? ⟨g6, q * 6 + 3, none⟩ = some (.int .i64 x.t) := by rw [y4]; exact cB 3 (by decide)
                have b4' : w3.cell? ⟨g6, q * 6 + 4, none⟩ = some (.int .i64 0) := cB 4 (by decide)
                clear cA cB hx hy y1 y2 y3 y4
                go_wp2
                go_quiet (fail)
                go_wp2
                go_light
                exact ⟨⟨q + 1, _, by omega, by go_num, rfl⟩, by simp [intOf]; omega⟩
              · go_wp2
                go_ret
                exact ⟨rfl, gdrewN hG3 _⟩
  · go_enter Tryd.func5, Tryd.ntmps5
    go_wp2_with (first | (go_at_call 9; refine (alive_any _ hl).mono ?_; rintro e w1 ⟨rfl, hg1⟩))
    all_goals first | (exfalso; omega) | (go_ret; exact ⟨rfl, hg1⟩)

end Go.Proofs.YtbiplgidlmbbkaaDoor
