/- Stage 19: code that lies in blocks from B on; code.Parse and the document's Parse at every text, in one form. -/
import Derived.Test.YtfbhflpjhbemlaaGreatGdH
import Derived.Test.YtfbhflpjhbemlaaGreatJnM
namespace Go.Proofs.YtfbhflpjhbemlaaGreat
open Go.RowKit Go.Maps Go.WideMaps

/-- the code lies in blocks from B on -/
structure Fr (B : Nat) (w : World) (c : Cd.Code) (ka ia ba : Option Addr) : Prop where
  at_ : CodeAt w c ka ia ba
  k : ∀ g o, ka = some ⟨g, o, none⟩ → c.kinds ≠ [] → B ≤ g
  i : ∀ g o, ia = some ⟨g, o, none⟩ → c.init ≠ [] → B ≤ g
  b : ∀ g o, ba = some ⟨g, o, none⟩ → c.body ≠ [] → B ≤ g
theorem Fr.kq {B : Nat} {w V : World} {c : Cd.Code} {ka ia ba : Option Addr} {X : List Nat} (h : Fr B w c ka ia ba) (hk : Kp X w V) (hX : ∀ x ∈ X, x < B ∨ w.heap.size ≤ x) : Fr B V c ka ia ba := by
  have nin : ∀ {g : Nat}, B ≤ g → g < w.heap.size → g ∉ X := fun h1 h2 hx => by rcases hX _ hx with h | h <;> omega
  refine ⟨⟨fun i n hi => ?_, fun i n hi => ?_, fun i x hi => ?_⟩, h.k, h.i, h.b⟩
  · obtain ⟨g, o, e, hc⟩ := h.at_.kinds i n hi
    exact ⟨g, o, e, hk.cell hc (nin (h.k g o e (fun e2 => by rw [e2] at hi; simp at hi)) (lt_of_cell? hc))⟩
  · obtain ⟨g, o, e, hc⟩ := h.at_.init i n hi
    exact ⟨g, o, e, hk.cell hc (nin (h.i g o e (fun e2 => by rw [e2] at hi; simp at hi)) (lt_of_cell? hc))⟩
  · obtain ⟨g, o, e, h1, h2, h3⟩ := h.at_.body i x hi
    have hn := nin (h.b g o e (fun e2 => by rw [e2] at hi; simp at hi)) (lt_of_cell? h1)
    exact ⟨g, o, e, hk.cell h1 hn, hk.cell h2 hn, hk.cell h3 hn⟩
/-- what stands whatever becomes of any older block lies in none of them -/
theorem fr_of {B : Nat} {w : World} {c : Cd.Code} {ka ia ba : Option Addr} (h0 : 0 < B) (h : ∀ X V, X < B → Kp [X] w V → CodeAt V c ka ia ba) : Fr B w c ka ia ba := by
  have ha := h 0 w h0 (Kp.refl _ _)
  have set := fun (g o : Nat) => (Kp.refl [g] w).set (o := o) (List.mem_singleton.2 rfl) (.bool true)
  refine ⟨ha, fun g o e hne => ?_, fun g o e hne => ?_, fun g o e hne => ?_⟩
  · refine Nat.le_of_not_lt fun hlt => ?_
    obtain ⟨x, t, hx⟩ : ∃ x t, c.kinds = x :: t := by cases hc : c.kinds with | nil => exact absurd hc hne | cons x t => exact ⟨x, t, rfl⟩
    obtain ⟨g1, o1, e1, h1⟩ := ha.kinds 0 x (by rw [hx]; rfl)
    obtain ⟨g2, o2, e2, h2⟩ := (h g _ hlt (set g (o + 0))).kinds 0 x (by rw [hx]; rfl)
    rw [e] at e1 e2
    cases e1
    cases e2
    rw [World.cell?_setCell_same' w _ _ (by rw [h1]; rfl)] at h2
    cases h2
  · refine Nat.le_of_not_lt fun hlt => ?_
    obtain ⟨x, t, hx⟩ : ∃ x t, c.init = x :: t := by cases hc : c.init with | nil => exact absurd hc hne | cons x t => exact ⟨x, t, rfl⟩
    obtain ⟨g1, o1, e1, h1⟩ := ha.init 0 x (by rw [hx]; rfl)
    obtain ⟨g2, o2, e2, h2⟩ := (h g _ hlt (set g (o + 0))).init 0 x (by rw [hx]; rfl)
    rw [e] at e1 e2
    cases e1
    cases e2
    rw [World.cell?_setCell_same' w _ _ (by rw [h1]; rfl)] at h2
    cases h2
  · refine Nat.le_of_not_lt fun hlt => ?_
    obtain ⟨x, t, hx⟩ : ∃ x t, c.body = x :: t := by cases hc : c.body with | nil => exact absurd hc hne | cons x t => exact ⟨x, t, rfl⟩
    obtain ⟨g1, o1, e1, h1, -, -⟩ := ha.body 0 x (by rw [hx]; rfl)
    obtain ⟨g2, o2, e2, h2, -, -⟩ := (h g _ hlt (set g (o + 0 * 3))).body 0 x (by rw [hx]; rfl)
    rw [e] at e1 e2
    cases e1
    cases e2
    rw [World.cell?_setCell_same' w _ _ (by rw [h1]; rfl)] at h2
    cases h2
namespace Cd
def zero : Code := { kinds := [], ins := 0, outs := 0, cells := 0, stack := 0, init := [], body := [] }
/-- what bytes are as code, and the error -/
noncomputable def pq (l : List UInt8) : Code × Int := open Classical in if h : ∃ c, I64s c ∧ check c = 0 ∧ write c = l then (Classical.choose h, 0) else (zero, 50)
theorem write_det {c d : Code} (h1 : I64s c) (h2 : check c = 0) (k1 : I64s d) (k2 : check d = 0) (e : write c = write d) : c = d := by
  obtain ⟨q1, q2⟩ := rdA_write h1 h2
  obtain ⟨p1, p2⟩ := rdA_write k1 k2
  rw [e, p1] at q1
  rw [e, p2] at q2
  cases c
  cases d
  simp at q1 q2
  simp [q1, q2]
theorem pq_of {l : List UInt8} {c : Code} (h1 : I64s c) (h2 : check c = 0) (h3 : write c = l) : pq l = (c, 0) := by
  have h : ∃ c, I64s c ∧ check c = 0 ∧ write c = l := ⟨c, h1, h2, h3⟩
  unfold pq
  rw [dif_pos h]
  obtain ⟨k1, k2, k3⟩ := Classical.choose_spec h
  rw [write_det k1 k2 h1 h2 (k3.trans h3.symm)]
theorem pq_no {l : List UInt8} (h : NoC l) : pq l = (zero, 50) := by
  unfold pq
  rw [dif_neg]
  rintro ⟨c, h1, h2, h3⟩
  exact h c h1 h2 h3
theorem zero_64 : I64s zero := ⟨by unfold I64 zero; decide, by unfold I64 zero; decide, by unfold I64 zero; decide, by unfold I64 zero; decide, fun n h => (by cases h), fun n h => (by cases h), fun n h => (by cases h), Nat.zero_le _, Nat.zero_le _, Nat.zero_le _⟩
theorem pq_64 (l : List UInt8) : I64s (pq l).1 := by
  by_cases h : ∃ c, I64s c ∧ check c = 0 ∧ write c = l
  · obtain ⟨c, h1, h2, h3⟩ := h
    rw [pq_of h1 h2 h3]
    exact h1
  · unfold pq
    rw [dif_neg h]
    exact zero_64
theorem pq_len (l : List UInt8) : (pq l).1.body.length ≤ 4000000 := by
  by_cases h : ∃ c, I64s c ∧ check c = 0 ∧ write c = l
  · obtain ⟨c, h1, h2, h3⟩ := h
    rw [pq_of h1 h2 h3]
    have := (check_lens h2).2.2
    exact Nat.le_trans this (by decide)
  · unfold pq
    rw [dif_neg h]
    exact Nat.zero_le _
end Cd
theorem zero_v : codeV Cd.zero none 0 none 0 none 0 = #[.slice none 0 0, .int .i64 0, .int .i64 0, .int .i64 0, .int .i64 0, .slice none 0 0, .slice none 0 0] := rfl
theorem zero_fr (B : Nat) (w : World) : Fr B w Cd.zero none none none := ⟨⟨fun i n h => by simp [Cd.zero] at h, fun i n h => by simp [Cd.zero] at h, fun i n h => by simp [Cd.zero] at h⟩, fun g o e => (by cases e), fun g o e => (by cases e), fun g o e => (by cases e)⟩
theorem rparse_pq (w : World) (l : List UInt8) (a : Option Addr) (cap : Nat) (hb : BytesAt w a l) (hcap : l.length ≤ cap) (hl : l.length ≤ 4000000) :
    Calls Tryz.prog 6 #[.slice a l.length cap] w fun e w' => w.grownBy w' none ∧ ∃ ka kc ia ic ba bc, e = .returned (.tuple #[.agg (codeV (Cd.pq l).1 ka kc ia ic ba bc), .int .i64 (Cd.pq l).2]) ∧ CodeAt w' (Cd.pq l).1 ka ia ba := by
  refine (rparse_any w l a cap hb hcap hl).mono ?_
  rintro e w' ⟨hg, ⟨hno, rfl⟩ | ⟨c, ka, kc, ia, ic, ba, bc, h1, h2, h3, rfl, h4⟩⟩
  · rw [Cd.pq_no hno]
    exact ⟨hg, none, 0, none, 0, none, 0, rfl, (zero_fr 0 w').at_⟩
  · rw [Cd.pq_of h1 h2 h3]
    exact ⟨hg, ka, kc, ia, ic, ba, bc, rfl, h4⟩
end Go.Proofs.YtfbhflpjhbemlaaGreat
