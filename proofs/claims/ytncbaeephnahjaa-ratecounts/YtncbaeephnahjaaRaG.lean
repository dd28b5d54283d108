/- heap.Push, heap.Pop over rate's queue. -/
import Derived.Test.YtncbaeephnahjaaRaF
namespace Go.Proofs.Ytncbaeephnahjaa
open Go.RowKit Go.Maps Go.WideMaps Go.Shelf
open Rat (at_ swp)

set_option maxHeartbeats 1600000 in
set_option maxRecDepth 20000 in
theorem hpush_any {w : World} {b : Nat} {v : Value} {q : List Nat} (h : Qv w b v q) (hn : q.length < 1000) (hh : Rat.H q) (x : Nat) :
    Calls Try.prog 24 #[.iface 60 (.pointer (some ⟨b, 0, none⟩)), .iface 62 (.agg #[.int .i64 ((x / 64 : Nat) : Int), .int .i64 ((x % 64 : Nat) : Int)])] w fun e w' => e = .returned (.tuple #[]) ∧ (∃ v' q', q'.Perm (q ++ [x]) ∧ Rat.H q' ∧ Qv w' b v' q') ∧ Below b w w' := by
  have hpu := qpush_any h hn x
  have hmp := m_push w
  have HH := Lib.hid hh
  clear h hh
  generalize ((x / 64 : Nat) : Int) = t at *
  generalize ((x % 64 : Nat) : Int) = p at *
  go_enter Try.func24, Try.ntmps24
  go_wp2_with (first | (go_at_call 51; refine hpu.mono ?_; clear hpu hmp; rintro e w2 ⟨rfl, ⟨v2, hq2⟩, hb2⟩; have hml := m_len w2 b v2 hq2.1; have hln := len_q hq2 (by simp; omega); rw [List.length_append, List.length_singleton] at hln; have HQ2 := Lib.hid (And.intro hq2 hb2); clear hq2 hb2) | (go_at_call 44; refine hln.mono ?_; rintro e w3 ⟨rfl, rfl⟩) | (go_at_call 26; refine (up_any HQ2.out.1 (by simp; omega) q.length (Rat.up_begin x HH.out)).mono ?_; rintro e w4 ⟨rfl, q', h1, h2, h3, h4⟩; have HQ4 := Lib.hid (And.intro h1 (And.intro h2 (And.intro h3 h4))); clear h1 h2 h3 h4))
  go_end0
  exact ⟨rfl, ⟨v2, q', HQ4.out.1, HQ4.out.2.1, HQ4.out.2.2.1⟩, HQ2.out.2.trans HQ4.out.2.2.2⟩

set_option maxHeartbeats 1600000 in
set_option maxRecDepth 20000 in
theorem hpop_any {w : World} {b : Nat} {v : Value} {q : List Nat} (h : Qv w b v q) (hn : q.length < 1000) (hh : Rat.H q) (h0 : 0 < q.length) :
    Calls Try.prog 25 #[.iface 60 (.pointer (some ⟨b, 0, none⟩))] w fun e w' => e = .returned (.iface 62 (.agg #[.int .i64 ((at_ q 0 / 64 : Nat) : Int), .int .i64 ((at_ q 0 % 64 : Nat) : Int)])) ∧ (∃ v' q', (at_ q 0 :: q').Perm q ∧ Rat.H q' ∧ Qv w' b v' q') ∧ Below b w w' := by
  have hml := m_len w b v h.1
  have hms := m_swap w b v h.1
  have hln := len_q h (by omega)
  obtain ⟨n, hn1⟩ : ∃ n, q.length = n + 1 := ⟨q.length - 1, by omega⟩
  have hsw := swap_q h (by omega) 0 n h0 (by omega)
  rw [hn1] at hln
  have hct : swp q 0 n = Rat.cut q ++ [at_ q 0] := by have := Rat.cut_app h0; rwa [hn1, Nat.add_sub_cancel] at this
  rw [hct] at hsw
  have hcl : (Rat.cut q).length = n := by rw [Rat.cut_len, hn1]; rfl
  have hmp : ∀ (w : World) (p : Value), (Go.method 189 60 p "Pop").run Try.prog w = .ok (50, p) w := m_pop
  have hn2 : n < 1000 := by omega
  have HF := Lib.hid (And.intro (Rat.cut_dn hh h0) (And.intro (Rat.cut_perm h0) hcl))
  clear h hh h0 hct hcl hn1 hn
  generalize at_ q 0 = x at *
  go_enter Try.func25, Try.ntmps25
  go_wp2_with (first | (go_at_call 44; refine hln.mono ?_; clear hln hml; rintro e w3 ⟨rfl, rfl⟩) | (go_at_call 46; refine hsw.mono ?_; clear hsw hms; rintro e w4 ⟨rfl, hq4, hb4⟩; have HQ4 := Lib.hid (And.intro hq4 hb4); clear hq4 hb4) | (go_at_call 27; refine (down_any HQ4.out.1 n HF.out.2.2 (by rw [List.length_append, HF.out.2.2]; simp; omega) 0 (by omega) HF.out.1).mono ?_; rintro e w5 ⟨⟨u5, rfl⟩, r', h1, h2, h3, h4⟩; have HQ5 := Lib.hid (And.intro h1 (And.intro h2 (And.intro h3 h4))); clear h1 h2 h3 h4) | (go_at_call 50; refine (qpop_any HQ5.out.2.2.1 (by rw [HQ5.out.1.length_eq, HF.out.2.2]; exact hn2)).mono ?_; rintro e w6 ⟨rfl, ⟨v6, hq6⟩, hb6⟩))
  go_ret
  exact ⟨rfl, ⟨v6, r', (List.Perm.cons x HQ5.out.1).trans HF.out.2.1, HQ5.out.2.1, hq6⟩, (HQ4.out.2.trans HQ5.out.2.2.2).trans hb6⟩
end Go.Proofs.Ytncbaeephnahjaa
