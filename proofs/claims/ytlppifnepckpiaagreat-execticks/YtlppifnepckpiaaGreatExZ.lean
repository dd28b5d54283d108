/- Stage 21: how long the ticks are that come in, by the form's own reach. -/
import Derived.Test.YtlppifnepckpiaaGreatExX
import Derived.SizedLaws
namespace Go.Proofs.YtlppifnepckpiaaGreat
open Go.RowKit Go.Maps Go.WideMaps Go.Deep

/-- ticks that Big lets pass are short, where none is beyond the form's reach -/
theorem bg_short : ∀ (L : List (List Int)) (z : Int), 0 ≤ z → z ≤ 2000 → (∀ l ∈ L, l.length ≤ 140737488351232) → bg L z ≤ 2000 → ∀ l ∈ L, l.length ≤ 2000
  | [], _, _, _, _, _ => fun l h => by cases h
  | l :: r, z, h0, h1, h2, h3 => by
    have hl := h2 l (List.mem_cons_self ..)
    rw [bg, if_pos h1] at h3
    have e : wrap64 (wrap64 (z + 1) + l.length) = z + 1 + l.length := by unfold wrap64; omega
    rw [e] at h3
    by_cases h4 : z + 1 + l.length ≤ 2000
    · intro x hx
      rcases List.mem_cons.1 hx with rfl | hx
      · omega
      · exact bg_short r _ (by omega) h4 (fun y hy => h2 y (List.mem_cons_of_mem _ hy)) h3 x hx
    · rw [bg_over h4] at h3
      exact absurd h3 h4
theorem int_bytes : Tryz.prog.bytesOf 3 = 8 := by kernel_rfl
theorem weights_all {H : Type} {P : Program} {e : TypeId} {d : DataW H} {k : Nat} (hk : k ∈ d.weights P e) : ∀ {l : List (DataW H)}, d ∈ l → k ∈ DataW.weightsAll P e l
  | [], h => by cases h
  | x :: r, h => by
    simp only [DataW.weightsAll, List.mem_append]
    rcases List.mem_cons.1 h with rfl | h
    · exact .inl hk
    · exact .inr (weights_all hk h)
theorem row_weight {H : Type} {enc : TypeId × Value → H} {W : World} {base : Nat} {sp : Nat → Bool} {held : Bool} {f : Nat} {ra : Option Addr} {n rc : Nat} {d : DataW H} {p : List MemPlace}
    (h : DataW.trod enc Tryz.prog W base sp held f 22 [.slice ra n rc] = some (d, p)) (hw : ∀ k ∈ d.weights Tryz.prog 22, k ≤ reachBytes) : n ≤ 140737488351232 := by
  rcases open_slice Tryz.underlying22 h with ⟨hcs, _⟩ | ⟨ad, n', c', m, f', D, Pl, hcs, _, _, _, _, hx, _⟩
  · simp at hcs
    rw [hcs.2.1]
    exact Nat.zero_le _
  · cases hcs
    cases hx
    have h1 := hw ((((List.range n).map D).length + ((List.range (m - n)).map fun j => D (n + j)).length) * Tryz.prog.bytesOf 3) (by simp only [DataW.weights, Tryz.underlying22]; exact List.mem_cons_self ..)
    rw [int_bytes] at h1
    simp [reachBytes] at h1
    omega
theorem rows_weight {H : Type} {enc : TypeId × Value → H} {W : World} {base : Nat} {sp : Nat → Bool} {held : Bool} {a : Option Addr} {c : Nat} {L : List (List Int)} {d : DataW H} {p : List MemPlace}
    (h : DataW.Trod enc Tryz.prog W base sp held 26 (.slice a L.length c) d p) (hr : RowsAt W a L) (hw : ∀ k ∈ d.weights Tryz.prog 26, k ≤ reachBytes) : ∀ l ∈ L, l.length ≤ 140737488351232 := by
  intro l hl
  obtain ⟨i, hi, rfl⟩ := List.getElem_of_mem hl
  obtain ⟨fuel, hf⟩ := h
  obtain ⟨b, o, ra, rc, rfl, hc, _⟩ := hr i L[i] (List.getElem?_eq_getElem hi)
  rcases open_slice1 Tryz.underlying26 co_row hf with ⟨hcs, _⟩ | ⟨ad, n, c', m, f, V, D, Pl, hcs, _, _, _, hmm, hx, hrow⟩
  · simp [Value.cells] at hcs
  · simp [Value.cells] at hcs
    obtain ⟨rfl, rfl, rfl⟩ := hcs
    have him : i < m := by rw [hmm]; split <;> omega
    obtain ⟨h1, h2⟩ := hrow i him
    rw [addr_at, hc] at h1
    rw [← Option.some.inj h1] at h2
    cases hx
    refine row_weight h2 (fun k hk => hw k ?_)
    simp only [DataW.weights, Tryz.underlying26]
    exact List.mem_cons_of_mem _ (List.mem_append.2 (.inl (weights_all hk (List.mem_map.2 ⟨i, by simpa using hi, rfl⟩))))

theorem execTicks_all (w : World) (c : Cd.Code) (ka : Option Addr) (kc : Nat) (ia : Option Addr) (ic : Nat) (ba : Option Addr) (bc : Nat) (a1 : Option Addr) (L1 : List (List Int)) (c1 : Nat) (hc : CodeAt w c ka ia ba) (hs : I64s c) (hkc : c.kinds.length ≤ kc) (h1 : RowsAt w a1 L1) (m1 : L1.length ≤ maxLen) (hb : ∀ l ∈ L1, l.length ≤ 140737488351232) :
    Calls Tryz.prog 3 #[.agg (codeV c ka kc ia ic ba bc), .slice a1 L1.length c1] w fun e w' => e = .returned (.bool true) ∧ w.grownBy w' none := by
  rcases Bool.eq_false_or_eq_true (bigB21 c) with q0 | q0
  · exact xtic_e0 w c ka kc ia ic ba bc a1 L1 c1 hc hs hkc h1 m1 q0
  rcases Bool.eq_false_or_eq_true (bigR L1) with q1 | q1
  · exact xtic_e1 w c ka kc ia ic ba bc a1 L1 c1 hc hs hkc h1 m1 q0 q1
  rcases Nat.lt_or_ge 30 L1.length with l1 | l1
  · exact xtic_e2 w c ka kc ia ic ba bc a1 L1 c1 hc hs hkc h1 m1 q0 q1 l1
  by_cases hr : Cd.check c = 0
  · exact xtic_main w c ka kc ia ic ba bc a1 L1 c1 hc hs hkc h1 m1 q0 q1 l1 hr (bg_short L1 0 (by decide) (by decide) hb (by have := of_decide_eq_false q1; omega))
  · exact xtic_e3 w c ka kc ia ic ba bc a1 L1 c1 hc hs hkc h1 m1 q0 q1 l1 hr
end Go.Proofs.YtlppifnepckpiaaGreat
