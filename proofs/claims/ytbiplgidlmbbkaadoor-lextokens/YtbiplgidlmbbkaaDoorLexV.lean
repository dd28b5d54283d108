/- The document's own tokens, on: its number answers as the plain definitions say. -/
import Derived.Test.YtbiplgidlmbbkaaDoorLexU
import Derived.Test.YtbiplgidlmbbkaaDoorLexR
namespace Go.Proofs.YtbiplgidlmbbkaaDoor
open Go.RowKit Go.Maps Go.WideMaps

/-- may the digits stand as a number of that kind (0: none) -/
def numOk (k : Int) (d : List UInt8) : Bool := if k = 0 then Lex.plainOk d else Lex.kindOk k d
/-- its number -/
def numN (k : Int) (d : List UInt8) : Int := if k = 0 then (Lex.numVal d : Int) else Bv.wrp k (wrap64 (Lex.numVal d))

def numPost (k : Int) (d : List UInt8) (w : World) (e : Ending) (w' : World) : Prop := (∃ n : Int, e = .returned (.tuple #[.int .i64 n, .bool (numOk k d)]) ∧ (numOk k d = true → n = numN k d)) ∧ w' = w
theorem numPost_yes {k : Int} {d : List UInt8} {w : World} {n : Int} (h : numOk k d = true) (hn : n = numN k d) : numPost k d w (.returned (.tuple #[.int .i64 n, .bool true])) w := ⟨⟨n, by rw [h], fun _ => hn⟩, rfl⟩
theorem numPost_no {k : Int} {d : List UInt8} {w : World} {n : Int} (h : numOk k d = false) : numPost k d w (.returned (.tuple #[.int .i64 n, .bool false])) w := ⟨⟨n, by rw [h], fun h' => by rw [h] at h'; cases h'⟩, rfl⟩

namespace Lex
/-- the first digits -/
theorem fv_take (l : List UInt8) (i : Nat) (h : i < l.length) : fv 0 (l.take (i + 1)) = fv 0 (l.take i) * 10 + (l[i].toNat - 48) := by
  unfold fv
  rw [List.take_add_one, List.getElem?_eq_getElem h, List.foldl_append]
  rfl
theorem fv_drop_ge (l : List UInt8) (i : Nat) : fv 0 (l.take i) ≤ fv 0 l := by
  have e : fv 0 l = fv (fv 0 (l.take i)) (l.drop i) := by
    unfold fv
    conv => lhs; rw [← List.take_append_drop i l]
    rw [List.foldl_append]
  rw [e]
  exact fv_ge _ _
theorem digits_at {l : List UInt8} (h : digits l) {i : Nat} (hi : i < l.length) : 48 ≤ l[i].toNat ∧ l[i].toNat ≤ 57 := h _ (List.getElem_mem hi)
end Lex

set_option maxHeartbeats 3200000 in
/-- digits without a kind -/
theorem rnumber_plain (d : ByteArray) (hd : Lex.digits d.data.toList) (hsz : d.size ≤ 65536) (w : World) :
    Calls Tryd.prog 33 #[.string d, .int .i64 0] w fun e w' => numPost 0 d.data.toList w e w' := by
  have hl : d.data.toList.length = d.size := Array.length_toList
  by_cases h9 : d.size ≤ 9
  · have hok : numOk 0 d.data.toList = true := by
      unfold numOk Lex.plainOk; rw [if_pos rfl, decide_eq_true_iff]; omega
    have HOK := Lib.hid hok
    have hlt : Lex.numVal d.data.toList < 1000000000 := by
      have h1 := Lex.numVal_lt _ hd
      have h2 : 10 ^ d.data.toList.length ≤ 10 ^ 9 := Nat.pow_le_pow_right (by decide) (by omega)
      have h3 : (10 : Nat) ^ 9 = 1000000000 := by decide
      omega
    have HLT := Lib.hid hlt
    have t1 : decide ((20 : Int) < (d.size : Int)) = false := by rw [decide_eq_false_iff_not]; omega
    have t2 : decide ((9 : Int) < (d.size : Int)) = false := by rw [decide_eq_false_iff_not]; omega
    clear hok hlt
    go_enter Tryd.func33, Tryd.ntmps33
    go_wp2
    go_loop [6, 7] (fun a b => ∃ (i : Nat) (n : Int), i ≤ d.size ∧ b = .int .i64 (i : Int) ∧ a = .int .i64 n ∧ 0 ≤ n ∧ n < 1000000000 ∧ Hid (n = (Lex.fv 0 (d.data.toList.take i) : Int))) (fun _ b => d.size - (intOf b).toNat)
    case atStart => exact ⟨0, 0, Nat.zero_le _, rfl, rfl, by decide, by decide, rfl⟩
    case round =>
      obtain ⟨i, n, hi, rfl, rfl, hn0, hn, H⟩ := hrel
      by_cases hlt2 : i < d.size
      · have hx := fun wx => idx_str d i hlt2 (i : Int) rfl wx
        rw [Lex.pk_eq (by omega)] at hx
        have hdg := Lex.digits_at hd (i := i) (by omega)
        have hst := Lex.fv_take d.data.toList i (by omega)
        have hge := Lex.fv_drop_ge d.data.toList (i + 1)
        have hv := Lex.numVal_eq d.data.toList
        obtain ⟨z, hz⟩ : ∃ z : Int, z = ((d.data.toList[i]'(by omega)).toNat : Int) := ⟨_, rfl⟩
        simp only [← hz] at hx
        have hz1 : 48 ≤ z := by omega
        have hz2 : z ≤ 57 := by omega
        have hstep : n * 10 + (z - 48) = (Lex.fv 0 (d.data.toList.take (i + 1)) : Int) := by
          rw [hst, H.out, hz]; omega
        have hb : n * 10 + (z - 48) < 1000000000 := by
          have := HLT.out
          omega
        have HS := Lib.hid hstep
        have HB := Lib.hid hb
        clear hst hge hv hdg hz hstep hb
        set_option maxRecDepth 20000 in
        go_wp2
        go_round
        case rel => exact ⟨i + 1, _, by omega, by go_num, rfl, by omega, by have := HB.out; omega, Lib.hid (by have := HS.out; omega)⟩
        case measure => simp [intOf]; omega
      · have e : i = d.size := by omega
        subst e
        go_wp2
        go_ret2
        refine numPost_yes HOK.out ?_
        unfold numN
        rw [if_pos rfl, Lex.numVal_eq]
        have h2 := H.out
        rw [← hl, List.take_length] at h2
        rw [h2]
  · have hok : numOk 0 d.data.toList = false := by
      unfold numOk Lex.plainOk; rw [if_pos rfl, decide_eq_false_iff_not]; omega
    have HOK := Lib.hid hok
    clear hok
    have t2 : decide ((9 : Int) < (d.size : Int)) = true := by rw [decide_eq_true_iff]; omega
    go_enter Tryd.func33, Tryd.ntmps33
    go_wp2
    all_goals go_ret2
    all_goals exact numPost_no HOK.out

end Go.Proofs.YtbiplgidlmbbkaaDoor
