/- Chapters 22 and 23: nets, formulas, what they mean (plain; no program in sight). -/
import Derived.RowKit
namespace Go.Proofs.YtdhgopcfjomjaaaDoor.Cn
open Go.RowKit

def I64 (n : Int) : Prop := -9223372036854775808 ≤ n ∧ n ≤ 9223372036854775807
structure Fm where
  vars : Int
  cl : List (List Int)
structure Gt where
  op : Int
  a : Int
  b : Int
def G64 (g : Gt) : Prop := I64 g.op ∧ I64 g.a ∧ I64 g.b

/-! formulas -/
/-- how long clauses are, each counted as one more -/
def wt : List (List Int) → Nat
  | [] => 0
  | c :: r => c.length + 1 + wt r
theorem wt_app (a b : List (List Int)) : wt (a ++ b) = wt a + wt b := by
  induction a with
  | nil => simp [wt]
  | cons c r ih => rw [List.cons_append, wt, wt, ih]; omega
theorem wt_one (c : List Int) : wt [c] = c.length + 1 := rfl
theorem wt_step {L : List (List Int)} {t : Nat} {l : List Int} (h : L[t]? = some l) : wt (L.take (t + 1)) = wt (L.take t) + (l.length + 1) := by
  rw [List.take_add_one, h, wt_app]
  rfl
theorem wt_take (L : List (List Int)) (t : Nat) : wt (L.take t) ≤ wt L := by
  have h := wt_app (L.take t) (L.drop t)
  rw [List.take_append_drop] at h
  omega
theorem wt_mem : ∀ {L : List (List Int)} {l : List Int}, l ∈ L → l.length < wt L
  | c :: r, l, h => by
    rw [wt]
    rcases List.mem_cons.1 h with rfl | h
    · omega
    · have := wt_mem h; omega
theorem wt_len : ∀ (L : List (List Int)), L.length ≤ wt L
  | [] => Nat.le_refl _
  | c :: r => by rw [wt, List.length_cons]; have := wt_len r; omega
def fair (v l : Int) : Bool := decide (l ≠ 0) && decide (-v ≤ l) && decide (l ≤ v)
def fairs (v : Int) (L : List (List Int)) : Bool := L.all fun c => c.all (fair v)
def check (f : Fm) : Int := if 200000 < f.vars ∨ 200000 < wt f.cl then 2 else if f.vars < 0 then 40 else if fairs f.vars f.cl = true then 0 else 40
theorem check_ok {f : Fm} : check f = 0 ↔ f.vars ≤ 200000 ∧ wt f.cl ≤ 200000 ∧ 0 ≤ f.vars ∧ fairs f.vars f.cl = true := by
  unfold check
  constructor
  · intro h
    by_cases h1 : 200000 < f.vars ∨ 200000 < wt f.cl
    · rw [if_pos h1] at h; exact absurd h (by decide)
    · rw [if_neg h1] at h
      by_cases h2 : f.vars < 0
      · rw [if_pos h2] at h; exact absurd h (by decide)
      · rw [if_neg h2] at h
        by_cases h3 : fairs f.vars f.cl = true
        · exact ⟨by omega, by omega, by omega, h3⟩
        · rw [if_neg h3] at h; exact absurd h (by decide)
  · rintro ⟨h1, h2, h3, h4⟩
    rw [if_neg (by omega), if_neg (by omega), if_pos h4]
theorem check_vals (f : Fm) : check f = 0 ∨ check f = 2 ∨ check f = 40 := by
  unfold check
  split
  · simp
  · split
    · simp
    · split <;> simp
theorem fair_bnd {v l : Int} (h : fair v l = true) : l ≠ 0 ∧ -v ≤ l ∧ l ≤ v := by
  simpa [fair, and_assoc] using h
theorem fairs_mem {v : Int} {L : List (List Int)} (h : fairs v L = true) {c : List Int} (hc : c ∈ L) {l : Int} (hl : l ∈ c) : fair v l = true :=
  List.all_eq_true.1 (List.all_eq_true.1 h c hc) l hl
/-- does a literal hold -/
def litH (m : List Bool) (l : Int) : Bool := if 0 < l then m.getD l.toNat false else !m.getD (-l).toNat false
def clH (m : List Bool) (c : List Int) : Bool := c.any (litH m)
def allH (m : List Bool) (L : List (List Int)) : Bool := L.all (clH m)
def holds (f : Fm) (m : List Bool) : Bool := decide (check f = 0) && decide ((m.length : Int) = f.vars + 1) && allH m f.cl

/-! nets -/
def gok (i : Nat) (g : Gt) : Bool := ((decide (g.op = 1) || decide (g.op = 2)) && decide (g.a = 0) && decide (g.b = 0)) || (decide (g.op = 3) && decide (0 ≤ g.a) && decide (g.a < 2 * i) && decide (0 ≤ g.b) && decide (g.b < 2 * i))
/-- are the gates from a place on right -/
def goks (i : Nat) : List Gt → Bool
  | [] => true
  | g :: r => gok i g && goks (i + 1) r
def netE (n : List Gt) : Int := if 200000 < n.length then 2 else if goks 0 n = true then 0 else 40
theorem goks_app (i : Nat) (a b : List Gt) : goks i (a ++ b) = (goks i a && goks (i + a.length) b) := by
  induction a generalizing i with
  | nil => simp [goks]
  | cons g r ih => rw [List.cons_append, goks, goks, ih, List.length_cons, Bool.and_assoc, show i + 1 + r.length = i + (r.length + 1) by omega]
theorem goks_step {n : List Gt} {t : Nat} {g : Gt} (h : n[t]? = some g) : goks 0 (n.take (t + 1)) = (goks 0 (n.take t) && gok t g) := by
  have hl : t < n.length := (List.getElem?_eq_some_iff.1 h).1
  rw [List.take_add_one, h, goks_app, List.length_take, Nat.min_eq_left (by omega), Nat.zero_add]
  simp [goks]
theorem goks_at : ∀ (i : Nat) (n : List Gt), goks i n = true → ∀ t g, n[t]? = some g → gok (i + t) g = true
  | _, [], _, t, g, h => by simp at h
  | i, x :: r, h, 0, g, hg => by
    rw [goks, Bool.and_eq_true] at h
    simp at hg
    subst hg
    exact h.1
  | i, x :: r, h, t + 1, g, hg => by
    rw [goks, Bool.and_eq_true] at h
    have := goks_at (i + 1) r h.2 t g (by simpa using hg)
    rw [show i + (t + 1) = i + 1 + t by omega]
    exact this
theorem net_ok {n : List Gt} : netE n = 0 ↔ n.length ≤ 200000 ∧ goks 0 n = true := by
  unfold netE
  constructor
  · intro h
    by_cases h1 : 200000 < n.length
    · rw [if_pos h1] at h; exact absurd h (by decide)
    · rw [if_neg h1] at h
      by_cases h3 : goks 0 n = true
      · exact ⟨by omega, h3⟩
      · rw [if_neg h3] at h; exact absurd h (by decide)
  · rintro ⟨h1, h2⟩
    rw [if_neg (by omega), if_pos h2]
/-- the literal of a wire -/
def lit (w : Int) : Int := if w % 2 = 1 then -(w / 2 + 1) else w / 2 + 1
/-- the clauses of a gate whose variable is v -/
def gcl (v : Int) (g : Gt) : List (List Int) := if g.op = 1 then [[-v]] else if g.op = 3 then [[-v, lit g.a], [-v, lit g.b], [v, -lit g.a, -lit g.b]] else []
def gcls (i : Nat) : List Gt → List (List Int)
  | [] => []
  | g :: r => gcl ((i : Int) + 1) g ++ gcls (i + 1) r
theorem gcls_app (i : Nat) (a b : List Gt) : gcls i (a ++ b) = gcls i a ++ gcls (i + a.length) b := by
  induction a generalizing i with
  | nil => simp [gcls]
  | cons g r ih => rw [List.cons_append, gcls, gcls, ih, List.length_cons, List.append_assoc, show i + 1 + r.length = i + (r.length + 1) by omega]
theorem gcls_step {n : List Gt} {t : Nat} {g : Gt} (h : n[t]? = some g) : gcls 0 (n.take (t + 1)) = gcls 0 (n.take t) ++ gcl ((t : Int) + 1) g := by
  have hl : t < n.length := (List.getElem?_eq_some_iff.1 h).1
  rw [List.take_add_one, h, gcls_app, List.length_take, Nat.min_eq_left (by omega), Nat.zero_add]
  simp [gcls]
def wcls (ws : List Int) : List (List Int) := ws.map fun w => [lit w]
def ofC (n : List Gt) (ws : List Int) : List (List Int) := gcls 0 n ++ wcls ws
def wiresOk (n : List Gt) (ws : List Int) : Bool := ws.all fun w => decide (0 ≤ w) && decide (w < 2 * n.length)
theorem gcl_wt (v : Int) (g : Gt) : wt (gcl v g) ≤ 10 := by
  unfold gcl
  split
  · simp [wt]
  · split <;> simp [wt]
theorem gcls_wt : ∀ (i : Nat) (n : List Gt), wt (gcls i n) ≤ 10 * n.length
  | _, [] => by simp [gcls, wt]
  | i, g :: r => by
    rw [gcls, wt_app, List.length_cons]
    have := gcl_wt ((i : Int) + 1) g
    have := gcls_wt (i + 1) r
    omega
theorem wcls_wt (ws : List Int) : wt (wcls ws) = 2 * ws.length := by
  induction ws with
  | nil => rfl
  | cons x r ih => rw [show wcls (x :: r) = [lit x] :: wcls r from rfl, wt, ih]; simp; omega
theorem ofC_wt (n : List Gt) (ws : List Int) : wt (ofC n ws) ≤ 10 * n.length + 2 * ws.length := by
  unfold ofC
  rw [wt_app, wcls_wt]
  have := gcls_wt 0 n
  omega
theorem lit_bnd {w : Int} {N : Nat} (h0 : 0 ≤ w) (h1 : w < 2 * N) : fair N (lit w) = true := by
  unfold fair lit
  split
  · simp; omega
  · simp; omega
theorem fair_mono {v u l : Int} (h : fair v l = true) (hu : v ≤ u) : fair u l = true := by
  have := fair_bnd h
  unfold fair
  simp
  omega
theorem gcl_fair {N i : Nat} {g : Gt} (hg : gok i g = true) (hi : i < N) : fairs N (gcl ((i : Int) + 1) g) = true := by
  unfold gcl
  split
  · simp [fairs, fair]; omega
  · split
    · rename_i h1 h3
      have hg' : 0 ≤ g.a ∧ g.a < 2 * i ∧ 0 ≤ g.b ∧ g.b < 2 * i := by
        simp [gok, h3] at hg
        omega
      have ha := fair_bnd (lit_bnd (N := i) hg'.1 hg'.2.1)
      have hb := fair_bnd (lit_bnd (N := i) hg'.2.2.1 hg'.2.2.2)
      simp [fairs, fair]
      omega
    · rfl
theorem fairs_app (v : Int) (a b : List (List Int)) : fairs v (a ++ b) = (fairs v a && fairs v b) := by simp [fairs]
theorem gcls_fair {N : Nat} : ∀ (i : Nat) (n : List Gt), goks i n = true → i + n.length ≤ N → fairs N (gcls i n) = true
  | _, [], _, _ => rfl
  | i, g :: r, h, hN => by
    rw [goks, Bool.and_eq_true] at h
    rw [List.length_cons] at hN
    rw [gcls, fairs_app, Bool.and_eq_true]
    exact ⟨gcl_fair h.1 (by omega), gcls_fair (i + 1) r h.2 (by omega)⟩
theorem wcls_fair {n : List Gt} {ws : List Int} (h : wiresOk n ws = true) : fairs n.length (wcls ws) = true := by
  unfold fairs wcls
  rw [List.all_map, List.all_eq_true]
  intro w hw
  have := List.all_eq_true.1 h w hw
  simp at this
  simp only [Function.comp, List.all_cons, List.all_nil, Bool.and_true]
  exact lit_bnd this.1 this.2
theorem ofC_check {n : List Gt} {ws : List Int} (hn : netE n = 0) (hw : wiresOk n ws = true) (h1 : 10 * n.length + 2 * ws.length ≤ 200000) : check ⟨n.length, ofC n ws⟩ = 0 := by
  rw [check_ok]
  have h2 := ofC_wt n ws
  refine ⟨by show (n.length : Int) ≤ _; omega, by show wt (ofC n ws) ≤ _; omega, by show (0 : Int) ≤ n.length; omega, ?_⟩
  show fairs n.length (ofC n ws) = true
  unfold ofC
  rw [fairs_app, Bool.and_eq_true]
  exact ⟨gcls_fair 0 n (net_ok.1 hn).2 (by omega), wcls_fair hw⟩

/-! what a net's gates are -/
def wire (v : List Bool) (w : Int) : Bool := v.getD (w / 2).toNat false != decide (w % 2 = 1)
/-- is a gate what it says -/
def gval (v : List Bool) (i : Nat) (g : Gt) : Prop := (g.op = 1 → v.getD i false = false) ∧ (g.op = 3 → v.getD i false = (wire v g.a && wire v g.b))
theorem litH_lit {v : List Bool} {w : Int} (h : 0 ≤ w) : litH (false :: v) (lit w) = wire v w := by
  unfold litH lit wire
  by_cases hw : w % 2 = 1
  · rw [if_pos hw, if_neg (by omega), decide_eq_true hw]
    rw [show (- -(w / 2 + 1)).toNat = (w / 2).toNat + 1 by omega, List.getD_cons_succ]
    simp
  · rw [if_neg hw, if_pos (by omega), decide_eq_false hw]
    rw [show (w / 2 + 1).toNat = (w / 2).toNat + 1 by omega, List.getD_cons_succ]
    simp
theorem litH_neg {m : List Bool} {l : Int} (h : l ≠ 0) : litH m (-l) = !litH m l := by
  unfold litH
  by_cases h1 : 0 < l
  · rw [if_pos h1, if_neg (by omega), show - -l = l by omega]
  · rw [if_neg h1, if_pos (by omega), Bool.not_not]
theorem litH_pos (m : List Bool) (i : Nat) : litH (false :: m) ((i : Int) + 1) = m.getD i false := by
  unfold litH
  rw [if_pos (by omega), show ((i : Int) + 1).toNat = i + 1 by omega, List.getD_cons_succ]
theorem lit_ne {w : Int} (h : 0 ≤ w) : lit w ≠ 0 := by
  unfold lit
  split <;> omega
theorem and_cl (x y z : Bool) : ((!x || y) && ((!x || z) && (x || (!y || !z)))) = true ↔ x = (y && z) := by cases x <;> cases y <;> cases z <;> simp
/-- a gate's clauses hold just where it is what it says -/
theorem gcl_holds {v : List Bool} {i : Nat} {g : Gt} (hg : gok i g = true) : allH (false :: v) (gcl ((i : Int) + 1) g) = true ↔ gval v i g := by
  unfold gcl gval
  by_cases h1 : g.op = 1
  · rw [if_pos h1]
    have e : litH (false :: v) (-((i : Int) + 1)) = !v.getD i false := by rw [litH_neg (by omega), litH_pos]
    simp only [allH, clH, List.all_cons, List.all_nil, List.any_cons, List.any_nil, Bool.or_false, Bool.and_true, e]
    constructor
    · intro h
      exact ⟨fun _ => by simpa using h, fun h3 => by omega⟩
    · intro h
      have := h.1 h1
      rw [this]; rfl
  · rw [if_neg h1]
    by_cases h3 : g.op = 3
    · rw [if_pos h3]
      have hg' : 0 ≤ g.a ∧ g.a < 2 * i ∧ 0 ≤ g.b ∧ g.b < 2 * i := by
        simp [gok, h3] at hg
        omega
      have e0 : litH (false :: v) (-((i : Int) + 1)) = !v.getD i false := by rw [litH_neg (by omega), litH_pos]
      have e1 := litH_pos v i
      have ea : litH (false :: v) (lit g.a) = wire v g.a := litH_lit hg'.1
      have eb : litH (false :: v) (lit g.b) = wire v g.b := litH_lit hg'.2.2.1
      have fa : litH (false :: v) (-lit g.a) = !wire v g.a := by rw [litH_neg (lit_ne hg'.1), ea]
      have fb : litH (false :: v) (-lit g.b) = !wire v g.b := by rw [litH_neg (lit_ne hg'.2.2.1), eb]
      simp only [allH, clH, List.all_cons, List.all_nil, List.any_cons, List.any_nil, Bool.or_false, Bool.and_true, e0, e1, ea, eb, fa, fb]
      generalize v.getD i false = x
      generalize wire v g.a = y
      generalize wire v g.b = z
      rw [and_cl]
      exact ⟨fun h => ⟨fun e => absurd e (by omega), fun _ => h⟩, fun h => h.2 h3⟩
    · rw [if_neg h3]
      exact ⟨fun _ => ⟨fun e => absurd e h1, fun e => absurd e h3⟩, fun _ => rfl⟩
theorem allH_app (m : List Bool) (a b : List (List Int)) : allH m (a ++ b) = (allH m a && allH m b) := by simp [allH]
theorem gcls_holds {v : List Bool} : ∀ (i : Nat) (n : List Gt), goks i n = true → (allH (false :: v) (gcls i n) = true ↔ ∀ t g, n[t]? = some g → gval v (i + t) g)
  | _, [], _ => ⟨fun _ t g h => by simp at h, fun _ => rfl⟩
  | i, x :: r, h => by
    rw [goks, Bool.and_eq_true] at h
    rw [gcls, allH_app, Bool.and_eq_true, gcl_holds h.1, gcls_holds (i + 1) r h.2]
    constructor
    · rintro ⟨h1, h2⟩ t g hg
      cases t with
      | zero => simp at hg; subst hg; exact h1
      | succ t => rw [show i + (t + 1) = i + 1 + t by omega]; exact h2 t g (by simpa using hg)
    · intro h0
      exact ⟨h0 0 x rfl, fun t g hg => by have := h0 (t + 1) g (by simpa using hg); rwa [show i + (t + 1) = i + 1 + t by omega] at this⟩
theorem wcls_holds {v : List Bool} {ws : List Int} (h : ∀ w ∈ ws, 0 ≤ w) : allH (false :: v) (wcls ws) = ws.all (wire v) := by
  induction ws with
  | nil => rfl
  | cons x r ih =>
    rw [show wcls (x :: r) = [lit x] :: wcls r from rfl, show allH (false :: v) ([lit x] :: wcls r) = (clH (false :: v) [lit x] && allH (false :: v) (wcls r)) from rfl, ih (fun w hw => h w (List.mem_cons_of_mem _ hw)), List.all_cons]
    congr 1
    simp only [clH, List.any_cons, List.any_nil, Bool.or_false]
    exact litH_lit (h x (List.mem_cons_self ..))
end Go.Proofs.YtdhgopcfjomjaaaDoor.Cn
