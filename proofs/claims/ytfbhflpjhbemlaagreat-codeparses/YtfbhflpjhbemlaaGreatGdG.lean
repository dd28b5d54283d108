/- Stage 19: what the document reads, of what was written (plain); list where it is bad already. -/
import Derived.Test.YtfbhflpjhbemlaaGreatGdE
namespace Go.Proofs.YtfbhflpjhbemlaaGreat
open Go.RowKit Go.Maps Go.WideMaps

namespace Cd
theorem rl_full : ∀ (k : Nat) (l : List UInt8), (rl k l).2.2 = false → (rl k l).1.length = k
  | 0, _, _ => rfl
  | k + 1, l, h => by
    rw [rl] at h ⊢
    split
    · rename_i hb
      rw [if_pos hb] at h
      cases h
    · rename_i hb
      rw [if_neg hb] at h
      have := rl_full k _ h
      simpa using this
/-- three numbers, as an instruction -/
def rn3 (l : List UInt8) : Ins × List UInt8 × Bool :=
  (⟨(rn 10 0 0 l).1, (rn 10 0 0 (rn 10 0 0 l).2.1).1, (rn 10 0 0 (rn 10 0 0 (rn 10 0 0 l).2.1).2.1).1⟩, (rn 10 0 0 (rn 10 0 0 (rn 10 0 0 l).2.1).2.1).2.1, (rn 10 0 0 l).2.2 || (rn 10 0 0 (rn 10 0 0 l).2.1).2.2 || (rn 10 0 0 (rn 10 0 0 (rn 10 0 0 l).2.1).2.1).2.2)
def ri : Nat → List UInt8 → List Ins × List UInt8 × Bool
  | 0, l => ([], l, false)
  | k + 1, l => if (rn3 l).2.2 = true then ([(rn3 l).1], (rn3 l).2.1, true) else ((rn3 l).1 :: (ri k (rn3 l).2.1).1, (ri k (rn3 l).2.1).2)
theorem rn3_64 (l : List UInt8) : I64 (rn3 l).1.op ∧ I64 (rn3 l).1.n ∧ I64 (rn3 l).1.k := ⟨rn_64 10 0 0 _, rn_64 10 0 0 _, rn_64 10 0 0 _⟩
theorem rn3_len (l : List UInt8) : (rn3 l).2.1.length ≤ l.length := Nat.le_trans (rn_len 10 0 0 _) (Nat.le_trans (rn_len 10 0 0 _) (rn_len 10 0 0 _))
theorem rn3_lt {l : List UInt8} (h : (rn3 l).2.2 = false) : (rn3 l).2.1.length < l.length := by
  unfold rn3 at h ⊢
  simp only [Bool.or_eq_false_iff] at h ⊢
  have h1 := rn_lt 10 0 0 l h.1.1
  exact Nat.lt_of_le_of_lt (Nat.le_trans (rn_len 10 0 0 _) (rn_len 10 0 0 _)) h1
theorem ri_64 : ∀ (k : Nat) (l : List UInt8), ∀ x ∈ (ri k l).1, I64 x.op ∧ I64 x.n ∧ I64 x.k
  | 0, _, x, h => by cases h
  | k + 1, l, x, h => by
    rw [ri] at h
    split at h
    · rw [List.mem_singleton.1 h]; exact rn3_64 l
    · rcases List.mem_cons.1 h with rfl | h
      · exact rn3_64 l
      · exact ri_64 k _ x h
theorem rn3_num {x : Ins} (h : I64 x.op ∧ I64 x.n ∧ I64 x.k) (r : List UInt8) : rn3 (num x.op ++ (num x.n ++ (num x.k ++ r))) = (x, r, false) := by
  unfold rn3
  rw [rn_num h.1, rn_num h.2.1, rn_num h.2.2]
  rfl
theorem ri_nums : ∀ (bs : List Ins) (r : List UInt8), (∀ x ∈ bs, I64 x.op ∧ I64 x.n ∧ I64 x.k) → ri bs.length (nums (insL bs) ++ r) = (bs, r, false)
  | [], r, _ => rfl
  | x :: bs, r, h => by
    have e : nums (insL (x :: bs)) ++ r = num x.op ++ (num x.n ++ (num x.k ++ (nums (insL bs) ++ r))) := by
      have e1 : insL (x :: bs) = [x.op, x.n, x.k] ++ insL bs := rfl
      rw [e1, nums_append]
      simp [nums]
    rw [e, List.length_cons, ri, rn3_num (h x (by simp))]
    simp only [Bool.false_eq_true, if_false]
    rw [ri_nums bs r (fun y hy => h y (by simp [hy]))]
/-- what was written is read -/
theorem read_write {c : Code} (h64 : I64s c) (hz : check c = 0) : ∃ R1 R2 R3 R4, (write c).drop 4 = nums (heads c) ++ R1 ∧ rl 5 ((write c).drop 4) = ([(c.kinds.length : Int), c.ins, c.outs, c.cells, c.stack], R1, false) ∧ rl c.kinds.length R1 = (c.kinds, R2, false) ∧ rl c.cells.toNat R2 = (c.init, R3, false) ∧ rn 10 0 0 R3 = ((c.body.length : Int), R4, false) ∧ ri c.body.length R4 = (c.body, [], false) := by
  obtain ⟨l1, hw, hr⟩ := rds_write hz h64
  have hic := hr.ic
  obtain ⟨a1, a2, a3, a4, a5, a6, a7, a8, a9, a10⟩ := h64
  have hk8 := hr.k8
  have hb6 := hr.b6
  have e : (write c).drop 4 = nums (heads c) ++ (nums c.kinds ++ (nums c.init ++ (num (c.body.length : Int) ++ (nums (insL c.body) ++ [])))) := by
    unfold write allL
    simp [nums_append, nums_cons, magic]
  have hh := rl_nums (heads c) (nums c.kinds ++ (nums c.init ++ (num (c.body.length : Int) ++ (nums (insL c.body) ++ [])))) (fun n hn => by
    unfold heads at hn
    simp at hn
    rcases hn with rfl | rfl | rfl | rfl | rfl
    · exact ⟨by omega, by omega⟩
    · exact a1
    · exact a2
    · exact a3
    · exact a4)
  refine ⟨_, _, _, _, e, by rw [e]; exact hh, rl_nums c.kinds _ a5, ?_, rn_num ⟨by omega, by omega⟩ _, ri_nums c.body [] a7⟩
  rw [show c.cells.toNat = c.init.length by omega]
  exact rl_nums c.init _ a6
end Cd
set_option maxHeartbeats 2000000 in
theorem rlist_bad (w : World) (rb : Nat) (a : Option Addr) (cp : Nat) (b : List UInt8) (p : Nat) (n : Int) (h : Rx w rb a cp b p true) :
    Calls Tryz.prog 13 #[.pointer (some ⟨rb, 0, none⟩), .int .i64 n] w fun e w' => e = .returned (.slice none 0 0) ∧ w.grownBy w' none := by
  have c2 := h.c2
  clear h
  by_cases hlt : (0 : Int) < n
  · have e1 : decide ((0 : Int) < n) = true := by simpa using hlt
    go_enter Tryz.func13, Tryz.ntmps13
    go_wp2
    go_loopw [5, 6] (fun vv iv wr => vv = .slice none 0 0 ∧ iv = .int .i64 0 ∧ Hid (w.grownBy wr none)) (fun _ _ _ => 0)
    case atStart => exact ⟨rfl, rfl, Lib.hid (World.grownBy.refl _ _)⟩
    case round =>
      obtain ⟨rfl, rfl, HT⟩ := hrel
      have c3 := HT.out.cell c2 (by simp)
      go_wp2
      go_ret
      exact ⟨rfl, HT.out⟩
  · have e1 : decide ((0 : Int) < n) = false := by simpa using hlt
    go_enter Tryz.func13, Tryz.ntmps13
    go_wp2
    go_loopw [5, 6] (fun vv iv wr => vv = .slice none 0 0 ∧ iv = .int .i64 0 ∧ Hid (w.grownBy wr none)) (fun _ _ _ => 0)
    case atStart => exact ⟨rfl, rfl, Lib.hid (World.grownBy.refl _ _)⟩
    case round =>
      obtain ⟨rfl, rfl, HT⟩ := hrel
      go_wp2
      go_ret
      exact ⟨rfl, HT.out⟩
end Go.Proofs.YtfbhflpjhbemlaaGreat
