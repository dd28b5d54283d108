/- Stage 19: CodeParses: bytes appended, a row of bytes that is turned, a body that is wiped. -/
import Derived.Test.YtfbhflpjhbemlaaGreatGdK
import Derived.Test.YtfbhflpjhbemlaaGreatJnN
namespace Go.Proofs.YtfbhflpjhbemlaaGreat
open Go.RowKit Go.Maps Go.WideMaps

theorem app_bytes (w : World) (B : Nat) (hB : B ≤ w.heap.size) (la : Option Addr) (lc : Nat) (l : List UInt8) (h : BytesAt w la l) (hn : l.length ≤ 1000000) (ty : TypeId) :
    ∃ v w', (Builtin.append_ #[22, 22] ty #[.slice none 0 0, .slice la l.length lc]).run Tryz.prog w = .ok v w' ∧ w'.ownsRow B 5 1 v l.length (byteC l) ∧ w.grownBy w' none := by
  obtain ⟨it, hit, hz, hsz, hby⟩ := info_parts info_u8
  cases la with
  | none =>
    have hl : l = [] := by
      cases l with
      | nil => rfl
      | cons x r => obtain ⟨g, o, e, _⟩ := h 0 x (by simp); cases e
    subst hl
    refine ⟨.slice none 0 0, w, ?_, World.ownsRow_nil _ _ _ _, World.grownBy.refl _ _⟩
    simp [Builtin.append_, run_underlying Tryz.underlying22, sizeOf, typeInfo, hit, Builtin.lenOf, Builtin.firstCells]
  | some ad =>
    have hnews : ∀ j u, (byteC l)[j]? = some u → w.cell? (ad.add j) = some u := fun j u hu => by
      unfold byteC at hu
      rw [List.getElem?_map] at hu
      cases hx : l[j]? with
      | none => rw [hx] at hu; cases hu
      | some x =>
        rw [hx] at hu
        cases hu
        obtain ⟨g, o, e, hc⟩ := h j x hx
        cases e
        rw [Addr.add_mid]
        exact hc
    obtain ⟨v', w', q1, q2, q3, _⟩ := run_append_own (P := Tryz.prog) w B 22 ty 5 it _ 1 1 Tryz.underlying22 hit hz hsz hby rfl (by decide) (.slice none 0 0) 0 [] (World.ownsRow_nil _ _ _ _) ad l.length lc (byteC l) (by unfold byteC; simp) hnews (byteC_one l) (by unfold maxLen; omega) (by omega) hB
    rw [Nat.zero_add, List.nil_append] at q2
    exact ⟨v', w', q1, q2, q3⟩
theorem wpList_app {ops : Array Oper} {rest : List Oper} {o : Oper} {a : Act} {w w' : World} {Q : Exit → Act → World → Prop} {s x : Operand} {t : TypeId} {v sl v' : Value} (hr : (Builtin.append_ #[t, t] o.type #[v, sl]).run Tryz.prog w = .ok v' w') (hgd : o.guard = none)
    (ho : o.op = .call { callee := .builtin .append, args := #[s, x], argTypes := #[t, t] }) (hs : a.eval s = v) (hx : a.eval x = sl) (h : wpList Tryz.prog ops Q rest (a.put o.dst v') w') : wpList Tryz.prog ops Q (o :: rest) a w :=
  wpList_plain hgd fun _ hK' => by
    unfold Oper.wp
    rw [gexec_app ho hs hx hr]
    exact hK' _ _ h
/-- a row of bytes, whatever they are -/
def U9 (V : World) (g n : Nat) : Prop := ∃ cur : Array Value, V.heap[g]? = some (.cells cur 5 (0, 0)) ∧ ∀ j, j < n → ∃ x : Int, cur[j]? = some (.int .u8 x)
theorem U9.set {V : World} {g n t : Nat} {x : Int} (h : U9 V g n) : U9 (V.setCell ⟨g, t, none⟩ (.int .u8 x)) g n := by
  obtain ⟨cur, h1, h2⟩ := h
  refine ⟨_, heap_setCell_same V g t _ _ _ h1, fun j hj => ?_⟩
  obtain ⟨y, hy⟩ := h2 j hj
  by_cases e : t = j
  · subst e
    exact ⟨x, by rw [Array.getElem?_setIfInBounds_self]; rw [if_pos (Array.getElem?_eq_some_iff.1 hy).1]⟩
  · exact ⟨y, by rw [Array.getElem?_setIfInBounds_ne e]; exact hy⟩
theorem U9.cell {V : World} {g n t : Nat} (h : U9 V g n) (ht : t < n) : ∃ x : Int, V.cell? ⟨g, t, none⟩ = some (.int .u8 x) := by
  obtain ⟨cur, h1, h2⟩ := h
  obtain ⟨x, hx⟩ := h2 t ht
  exact ⟨x, by rw [cell_of_row _ _ t _ _ _ h1]; exact hx⟩
theorem U9.fr {V : World} {g n : Nat} (h : U9 V g n) (t : Nat) : V.frozen? ⟨g, t, none⟩ = false := by obtain ⟨cur, h1, _⟩ := h; simp [World.frozen?, h1]
theorem U9.kp {V V' : World} {g n : Nat} {X : List Nat} (h : U9 V g n) (hk : Kp X V V') (hX : g ∉ X) : U9 V' g n := by
  obtain ⟨cur, h1, h2⟩ := h
  exact ⟨cur, (hk.block g (gl h1) hX).trans h1, h2⟩
/-- a slice of bytes of one's own, with one byte at least -/
theorem own_row {w : World} {B : Nat} {v : Value} {l : List UInt8} (h : w.ownsRow B 5 1 v l.length (byteC l)) (hne : l ≠ []) : ∃ F c, v = .slice (some ⟨F, 0, none⟩) l.length c ∧ B ≤ F ∧ l.length ≤ c ∧ BytesAt w (some ⟨F, 0, none⟩) l ∧ U9 w F l.length := by
  obtain ⟨a, c, e, hb⟩ := BytesAt.own h
  rcases h.2 with ⟨_, h0⟩ | ⟨g, cap, cur, rfl, hB, hh, c1, c2, c3, c4⟩
  · exact absurd (List.eq_nil_of_length_eq_zero h0) hne
  · injection e with e1 e2 e3
    subst e1
    refine ⟨g, cap, rfl, hB, c1, hb, cur, hh, fun j hj => ?_⟩
    obtain ⟨x, hx⟩ : ∃ x, l[j]? = some x := ⟨_, List.getElem?_eq_getElem hj⟩
    obtain ⟨g', o', e', hc⟩ := hb j x hx
    cases e'
    rw [Nat.zero_add, cell_of_row _ _ j _ _ _ hh] at hc
    exact ⟨_, hc⟩
end Go.Proofs.YtfbhflpjhbemlaaGreat
