/- Stage 19: CodeWrites: the walk (written by mkcur.py). -/
import Derived.Test.YtihfmfjahimlbaaGreatJnN
import Derived.Test.YtihfmfjahimlbaaGreatJnM
namespace Go.Proofs.YtihfmfjahimlbaaGreat
open Go.RowKit Go.Maps Go.WideMaps

/-- the boxes of both codes -/
def Cv (w V : World) (cs os : Array Value) : Prop := w.grownBy V none ∧ V.heap[w.heap.size]? = some (.cells cs 25 (0, 0)) ∧ V.heap[w.heap.size + 1]? = some (.cells os 25 (0, 0))
theorem Cv.on {w V V' : World} {cs os : Array Value} (h : Cv w V cs os) (hg : V.grownBy V' none) : Cv w V' cs os := ⟨h.1.trans hg, (hg.block _ (gl h.2.1) (by simp)).trans h.2.1, (hg.block _ (gl h.2.2) (by simp)).trans h.2.2⟩
theorem Cv.below {w V V' : World} {cs os : Array Value} {B : Nat} (h : Cv w V cs os) (hb : Below B V V') (hB : V.heap.size ≤ B ∨ w.heap.size + 1 < B) : Cv w V' cs os := by
  have h1 := gl h.2.1
  have h2 := gl h.2.2
  have h3 := h.1.size
  exact ⟨⟨hb.os.trans h.1.os, hb.tape.trans h.1.tape, hb.output.trans h.1.output, Nat.le_trans h.1.size hb.size, fun k hk _ => (hb.block k (by omega)).trans (h.1.block k hk (by simp))⟩, (hb.block _ (by omega)).trans h.2.1, (hb.block _ (by omega)).trans h.2.2⟩
/-- a row of bytes, whatever they are -/
def U8 (V : World) (g n : Nat) : Prop := ∃ cur : Array Value, V.heap[g]? = some (.cells cur 5 (0, 0)) ∧ ∀ j, j < n → ∃ x : Int, cur[j]? = some (.int .u8 x)
theorem U8.set {V : World} {g n t : Nat} {x : Int} (h : U8 V g n) : U8 (V.setCell ⟨g, t, none⟩ (.int .u8 x)) g n := by
  obtain ⟨cur, h1, h2⟩ := h
  refine ⟨_, heap_setCell_same V g t _ _ _ h1, fun j hj => ?_⟩
  obtain ⟨y, hy⟩ := h2 j hj
  by_cases e : t = j
  · subst e
    exact ⟨x, by rw [Array.getElem?_setIfInBounds_self]; rw [if_pos (Array.getElem?_eq_some_iff.1 hy).1]⟩
  · exact ⟨y, by rw [Array.getElem?_setIfInBounds_ne e]; exact hy⟩
theorem U8.cell {V : World} {g n t : Nat} (h : U8 V g n) (ht : t < n) : ∃ x : Int, V.cell? ⟨g, t, none⟩ = some (.int .u8 x) := by
  obtain ⟨cur, h1, h2⟩ := h
  obtain ⟨x, hx⟩ := h2 t ht
  exact ⟨x, by rw [cell_of_row _ _ t _ _ _ h1]; exact hx⟩
theorem U8.fr {V : World} {g n : Nat} (h : U8 V g n) (t : Nat) : V.frozen? ⟨g, t, none⟩ = false := by obtain ⟨cur, h1, _⟩ := h; simp [World.frozen?, h1]
/-- what is known of the bytes that Write told of the other code -/
def Dd (B : Nat) (V : World) (da : Option Addr) (dn : Nat) : Prop := dn = 0 ∨ ∃ g, da = some ⟨g, 0, none⟩ ∧ B ≤ g ∧ U8 V g dn
theorem write_o (V : World) (c : Cd.Code) (ka : Option Addr) (kc : Nat) (ia : Option Addr) (ic : Nat) (ba : Option Addr) (bc : Nat) (hc : CodeAt V c ka ia ba) (h64 : I64s c) (hkc : c.kinds.length ≤ kc) (hL : (Cd.write c).length ≤ 4000000) :
    Calls Tryz.prog 7 #[.agg (codeV c ka kc ia ic ba bc)] V fun e w' => V.grownBy w' none ∧ ∃ da dn dc ec, e = .returned (.tuple #[.slice da dn dc, .int .i64 ec]) ∧ Dd V.heap.size w' da dn ∧ dn ≤ 4000000 := by
  refine (cwrite_any V c ka kc ia ic ba bc hc h64 hkc).mono ?_
  rintro e w' ⟨hg, h0, h1⟩
  refine ⟨hg, ?_⟩
  by_cases hz : Cd.check c = 0
  · obtain ⟨v, rfl, hown⟩ := h0 hz
    rcases hown.2 with ⟨rfl, hn⟩ | ⟨g, cap, cur, rfl, hB, hh, _, _, hcs, htk⟩
    · exact ⟨_, _, _, _, rfl, .inl rfl, Nat.zero_le _⟩
    · refine ⟨_, _, _, _, rfl, .inr ⟨g, rfl, hB, cur, hh, fun j hj => ?_⟩, hL⟩
      have : (byteC (Cd.write c))[j]? = cur[j]? := by
        rw [← htk, List.getElem?_take, if_pos (by omega)]
        simp
      rw [← this]
      unfold byteC
      rw [List.getElem?_map, List.getElem?_eq_getElem hj]
      exact ⟨_, rfl⟩
  · exact ⟨_, _, _, _, h1 hz, .inl rfl, Nat.zero_le _⟩
/-- Write, of which the bytes are known -/
def WrG (V : World) (P : List UInt8) (e : Ending) (w' : World) : Prop := V.grownBy w' none ∧ ∃ g cap, e = .returned (.tuple #[.slice (some ⟨g, 0, none⟩) P.length cap, .int .i64 0]) ∧ BytesAt w' (some ⟨g, 0, none⟩) P ∧ P.length ≤ cap ∧ g < w'.heap.size
theorem wrG_of {V w' : World} {P : List UInt8} {v : Value} (hP : P ≠ []) (hg : V.grownBy w' none) (h : w'.ownsRow V.heap.size 5 1 v P.length (byteC P)) : WrG V P (.returned (.tuple #[v, .int .i64 0])) w' := by
  refine ⟨hg, ?_⟩
  obtain ⟨a, c, rfl, hb⟩ := BytesAt.own h
  rcases h.2 with ⟨_, h0⟩ | ⟨g, cap, cur, e, hB, hh, hcp, _⟩
  · exact absurd (List.eq_nil_of_length_eq_zero h0) hP
  · cases e
    exact ⟨_, _, rfl, hb, hcp, gl hh⟩
theorem write_ne (c : Cd.Code) : Cd.write c ≠ [] := by unfold Cd.write Cd.magic; simp
theorem write_len {c : Cd.Code} (h64 : I64s c) (hb : bigB c = false) : (Cd.write c).length ≤ 4000000 := by
  unfold bigB at hb
  simp only [Bool.or_eq_false_iff, decide_eq_false_iff_not] at hb
  obtain ⟨⟨b1, b2⟩, b3⟩ := hb
  unfold Cd.write Cd.allL Cd.heads
  rw [Cd.nums_append, Cd.nums_append, Cd.nums_append, Cd.nums_cons (c.body.length : Int)]
  have a1 := nums_len [(c.kinds.length : Int), c.ins, c.outs, c.cells, c.stack] (fun x hx => by
    simp only [List.mem_cons, List.not_mem_nil, or_false] at hx
    rcases hx with rfl | rfl | rfl | rfl | rfl
    · unfold Cd.I64; omega
    · exact h64.1
    · exact h64.2.1
    · exact h64.2.2.1
    · exact h64.2.2.2.1)
  have a2 := nums_len c.kinds h64.2.2.2.2.1
  have a3 := nums_len c.init h64.2.2.2.2.2.1
  have a4 : (Cd.num (c.body.length : Int)).length ≤ 10 := Cd.num_len (by unfold Cd.I64; omega)
  have a5 := nums_len (Cd.insL c.body) (insL_64 h64.2.2.2.2.2.2.1)
  rw [Cd.insL_len] at a5
  have a6 : Cd.magic.length = 4 := rfl
  simp only [List.length_append, List.length_cons, List.length_nil] at a1 ⊢
  omega
theorem str_of {W : World} {g cap : Nat} {P : List UInt8} (hb : BytesAt W (some ⟨g, 0, none⟩) P) : (convert 28 9 (.slice (some ⟨g, 0, none⟩) P.length cap)).run Tryz.prog W = .ok (.string ⟨P.toArray⟩) W :=
  run_convert_bytes_back (P := Tryz.prog) W 28 9 5 ⟨g, 0, none⟩ cap P Tryz.underlying28 Tryz.underlying5 Tryz.underlying9 (fun j hj => by
    obtain ⟨g', o, e, hc⟩ := hb j P[j] (List.getElem?_eq_getElem hj)
    cases e
    have ea : (⟨g, 0, none⟩ : Addr).add j = ⟨g, 0 + j, none⟩ := by unfold Addr.add; split <;> simp_all
    rw [ea]
    exact hc)

end Go.Proofs.YtihfmfjahimlbaaGreat
