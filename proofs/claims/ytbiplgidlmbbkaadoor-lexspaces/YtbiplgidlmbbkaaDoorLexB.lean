/- lex's reader in memory: a block of three cells; and the walks of its methods peek, take, skip, choose, end, sign: what each answers, where the reader stands then; nothing else turns. -/
import Derived.Test.YtbiplgidlmbbkaaDoorLexA
import Derived.Deep.QuietTactic
import Derived.BigQuiet
import Derived.RegionTactic
import Derived.Maps.Own
import Derived.Maps.OwnSet
import Derived.Maps.AppendAt
import Derived.Maps.Range
import Derived.Maps.RangeWalk
namespace Go.Proofs.YtbiplgidlmbbkaaDoor
open Go.RowKit

/-- block b is a reader of the text s that stands at i, its words in the map m -/
def Rd (w : World) (b : Nat) (s : ByteArray) (i m : Nat) : Prop := w.heap[b]? = some (.cells #[.string s, .int .i64 (i : Int), .map (some m)] 48 (0, 0))

section
variable {w : World} {b : Nat} {s : ByteArray} {i m : Nat}
theorem Rd.c0 (h : Rd w b s i m) : w.cell? ⟨b, 0, none⟩ = some (.string s) := cell_of_row w b 0 _ _ _ h
theorem Rd.c1 (h : Rd w b s i m) : w.cell? ⟨b, 1, none⟩ = some (.int .i64 (i : Int)) := cell_of_row w b 1 _ _ _ h
theorem Rd.c2 (h : Rd w b s i m) : w.cell? ⟨b, 2, none⟩ = some (.map (some m)) := cell_of_row w b 2 _ _ _ h
theorem Rd.fr (h : Rd w b s i m) (j : Nat) : w.frozen? ⟨b, j, none⟩ = false := by
  unfold Rd at h; simp [World.frozen?, h]
theorem Rd.lt (h : Rd w b s i m) : b < w.heap.size := (Array.getElem?_eq_some_iff.1 h).1
theorem Rd.set (h : Rd w b s i m) (j : Nat) : Rd (w.setCell ⟨b, 1, none⟩ (.int .i64 (j : Int))) b s j m := by
  unfold Rd at h ⊢
  simp only [World.setCell, Array.getElem?_modify, if_true, h, Option.map_some]
  rfl
theorem Rd.add (h : Rd w b s i m) (k : Nat) : Rd (w.setCell ⟨b, 1, none⟩ (.int .i64 ((i : Int) + k))) b s (i + k) m := by
  have := h.set (i + k)
  rwa [Int.natCast_add] at this
theorem Rd.drewN (h : Rd w b s i m) (k : Nat) : Rd (w.drewN k) b s i m := h
theorem Rd.kept {w' : World} {row : Option Nat} (h : Rd w b s i m) (hg : w.grownBy w' row) (hne : some b ≠ row) : Rd w' b s i m :=
  (hg.block b h.lt hne).trans h
end

theorem grown_set (w : World) (a : Addr) (u : Value) : w.grownBy (w.setCell a u) (some a.block) :=
  ⟨rfl, rfl, rfl, by simp [World.setCell], fun k _ hk => Below.heap_setCell w a u k (fun e => hk (by rw [e]))⟩
theorem grown_drewN (w : World) (k : Nat) (row : Option Nat) : w.grownBy (w.drewN k) row := ⟨rfl, rfl, rfl, Nat.le_refl _, fun _ _ _ => rfl⟩

theorem gset {w wx : World} {row : Option Nat} (h : w.grownBy wx row) {a : Addr} (ha : w.heap.size ≤ a.block ∨ row = some a.block) (u : Value) : w.grownBy (wx.setCell a u) row :=
  h.andThen (grown_set wx a u) (fun j e => by cases e; exact ha)
theorem gdrewN {w wx : World} {row : Option Nat} (h : w.grownBy wx row) (k : Nat) : w.grownBy (wx.drewN k) row := ⟨h.os, h.tape, h.output, h.size, h.block⟩
theorem galloc {w wx : World} {row : Option Nat} (h : w.grownBy wx row) (o : Obj) : w.grownBy (wx.alloc o) row := h.andThen (World.grownBy_alloc wx o none) (fun j e => by cases e)
theorem Rd.other {w : World} {b : Nat} {s : ByteArray} {i m : Nat} (h : Rd w b s i m) {a : Addr} (ha : ¬ b = a.block) (u : Value) : Rd (w.setCell a u) b s i m :=
  h.kept (grown_set w a u) (fun e => ha (Option.some.inj e))
theorem Rd.alloc {w : World} {b : Nat} {s : ByteArray} {i m : Nat} (h : Rd w b s i m) (o : Obj) : Rd (w.alloc o) b s i m :=
  h.kept (World.grownBy_alloc w o none) (by simp)

theorem byte_at (s : ByteArray) (i : Nat) (h : i < s.size) : s[i].toNat = Lex.pk s.data.toList i := by
  rw [Lex.pk_eq (by simpa using h)]
  rfl

theorem idx_str (s : ByteArray) (n : Nat) (h : n < s.size) (z : Int) (hz : z = (n : Int)) (wx : World) :
    (Instr.index 9 (.string s) (.int .i64 z)).run Tryd.prog wx = .ok (.int .u8 (Lex.pk s.data.toList n : Int)) wx := by
  subst hz
  have e := run_index_string (P := Tryd.prog) wx 9 s .i64 (n : Int) Tryd.underlying9
  rw [e, dif_pos (by omega)]
  simp only [Int.toNat_natCast]
  rw [byte_at s n h]

theorem slc_str (s : ByteArray) (i j : Nat) (h1 : i ≤ j) (h2 : j ≤ s.size) (wx : World) :
    (Instr.slice 9 (.string s) (some (.int .i64 (i : Int))) (some (.int .i64 (j : Int))) none).run Tryd.prog wx = .ok (.string (s.extract i j)) wx := by
  have e := run_slice_string (P := Tryd.prog) wx 9 s .i64 .i64 (i : Int) (j : Int) Tryd.underlying9 (by omega) (by omega) (by omega)
  simpa only [Int.toNat_natCast] using e

set_option maxHeartbeats 400000 in
theorem peek_any (b : Nat) (s : ByteArray) (i on m : Nat) (hs : s.size ≤ 65536) (hi : i ≤ s.size) (hon : on ≤ 1) (w : World) (h : Rd w b s i m) :
    Calls Tryd.prog 36 #[.pointer (some ⟨b, 0, none⟩), .int .i64 (on : Int)] w fun e w' => e = .returned (.int .u8 (Lex.pk s.data.toList (i + on) : Int)) ∧ ∃ k, w' = w.drewN k := by
  have c0 := h.c0
  have c1 := h.c1
  have ew : wrap64 ((i : Int) + on) = (i : Int) + on := by unfold wrap64; omega
  by_cases hlt : i + on < s.size
  · have hd : decide ((s.size : Int) ≤ (i : Int) + on) = false := by rw [decide_eq_false_iff_not]; omega
    have ew2 : IntKind.i64.wrap ((i : Int) + on) = (i : Int) + on := by rw [IntKind.wrap_i64]; omega
    have hx := fun wx => idx_str s (i + on) hlt ((i : Int) + on) (by omega) wx
    have hx2 := fun wx => idx_str s (i + on) hlt (IntKind.i64.wrap ((i : Int) + on)) (ew2.trans (Int.natCast_add i on).symm) wx
    clear ew2
    go_enter Tryd.func36, Tryd.ntmps36
    go_wp2
    go_quiet (fail)
    go_wp2
    go_quiet (fail)
    go_wp2
    go_ret
    exact ⟨rfl, _, World.drewN_drewN ..⟩
  · have hd : decide ((s.size : Int) ≤ (i : Int) + on) = true := by rw [decide_eq_true_iff]; omega
    go_enter Tryd.func36, Tryd.ntmps36
    go_wp2
    go_quiet (fail)
    go_wp2
    go_ret
    exact ⟨ret_int (by rw [Lex.pk_ge (by simpa using hlt)]; rfl), _, rfl⟩

set_option maxHeartbeats 800000 in
/-- take: the bytes of one sort, from where the reader stands; it stands behind them then -/
theorem take_any (f : FuncId) (p : UInt8 → Bool) (hrun : ∀ args w, (callFunc f args).run Tryd.prog w = .ok (.enter f args) w)
    (hf : ∀ (c : UInt8) (w : World), Calls Tryd.prog f #[.int .u8 (c.toNat : Int)] w fun e w' => e = .returned (.bool (p c)) ∧ w' = w)
    (b : Nat) (s : ByteArray) (i m : Nat) (hs : s.size ≤ 65536) (hi : i ≤ s.size) (w : World) (h : Rd w b s i m) :
    Calls Tryd.prog 37 #[.pointer (some ⟨b, 0, none⟩), .func (.func f) #[] #[]] w fun e w' =>
      e = .returned (.string (s.extract i (i + Lex.spn p (s.data.toList.drop i)))) ∧ Rd w' b s (i + Lex.spn p (s.data.toList.drop i)) m ∧ w.grownBy w' (some b) := by
  have c0 := h.c0
  have c1 := h.c1
  go_enter Tryd.func37, Tryd.ntmps37
  go_wp2
  clear c0 c1
  go_loopw [10] (fun _ wr => ∃ j : Nat, i ≤ j ∧ j ≤ s.size ∧ Rd wr b s j m ∧ w.grownBy wr (some b) ∧ Hid (j + Lex.spn p (s.data.toList.drop j) = i + Lex.spn p (s.data.toList.drop i))) (fun _ wr => s.size - (intOf ((wr.cell? ⟨b, 1, none⟩).getD .nilFunc)).toNat)
  case atStart => exact ⟨i, Nat.le_refl _, hi, h, World.grownBy.refl _ _, rfl⟩
  case round =>
    obtain ⟨j, hij, hj, hR, hG, HJ⟩ := hrel
    have c0 := hR.c0
    have c1 := hR.c1
    have fr1 := hR.fr 1
    by_cases hlt : j < s.size
    · have hd : decide ((j : Int) < (s.size : Int)) = true := by rw [decide_eq_true_iff]; omega
      have hx := fun wx => idx_str s j hlt (j : Int) rfl wx
      obtain ⟨c, hc⟩ : ∃ c : UInt8, c = s.data.toList[j]'(by simpa using hlt) := ⟨_, rfl⟩
      have hp : Lex.pk s.data.toList j = c.toNat := by rw [Lex.pk_eq (by simpa using hlt), hc]
      simp only [hp] at hx
      have HC : Hid (c = s.data.toList[j]'(by simpa using hlt)) := hc
      clear hc hp
      rcases Bool.eq_false_or_eq_true (p c) with hpc | hpc
      · go_wp2
        go_quiet (exact Calls.quiet_of_same (hf _ _))
        rw [hpc]
        go_wp2
        have hR2 := (hR.drewN nq).add 1
        refine ⟨⟨j + 1, by omega, by omega, hR2, (hG.trans (grown_drewN wr nq _)).trans (grown_set _ _ _), ?_⟩, ?_⟩
        · have e := HJ.out
          have e2 := Lex.spn_step (p := p) (l := s.data.toList) (j := j) (by simpa using hlt) (by rw [← HC.out]; exact hpc)
          show _ = _
          omega
        · rw [show ((wr.drewN nq).setCell ⟨b, 1, none⟩ (.int .i64 ((j : Int) + 1))).cell? ⟨b, 1, none⟩ = _ from hR2.c1, c1]
          simp only [Option.getD_some, intOf, Int.toNat_natCast]
          omega
      · have hsl := fun wx => slc_str s i j hij hj wx
        go_wp2
        go_quiet (exact Calls.quiet_of_same (hf _ _))
        rw [hpc]
        go_wp2
        go_quiet (fail)
        go_wp2
        go_ret
        have e := HJ.out
        have e2 := Lex.spn_stop (p := p) (l := s.data.toList) (j := j) (by simpa using hlt) (by rw [← HC.out]; exact hpc)
        have e3 : j = i + Lex.spn p (s.data.toList.drop i) := by omega
        refine ⟨by rw [← e3]; rfl, ?_, ?_⟩
        · rw [← e3]; exact hR
        · exact ⟨hG.os, hG.tape, hG.output, hG.size, hG.block⟩
    · have hd : decide ((j : Int) < (s.size : Int)) = false := by rw [decide_eq_false_iff_not]; omega
      have hsl := fun wx => slc_str s i j hij hj wx
      go_wp2
      go_quiet (fail)
      go_wp2
      go_quiet (fail)
      go_wp2
      go_ret
      have e := HJ.out
      have e2 := Lex.spn_end p (l := s.data.toList) (j := j) (by simpa using hlt)
      have e3 : j = i + Lex.spn p (s.data.toList.drop i) := by omega
      refine ⟨by rw [← e3]; rfl, ?_, ?_⟩
      · rw [← e3]; exact hR
      · exact ⟨hG.os, hG.tape, hG.output, hG.size, hG.block⟩

end Go.Proofs.YtbiplgidlmbbkaaDoor
