/- The plain mathematics of code's Check, on: values that lie n high; jumps. -/
import Derived.Test.YtlppifnepckpiaaCdN
namespace Go.Proofs.Ytlppifnepckpiaa.Cd
open Go.RowKit

/-- nothing known of so many -/
def nots (n : Nat) : List (Option (List Int)) := List.replicate n none
theorem nots_succ (n : Nat) : nots (n + 1) = none :: nots n := rfl
theorem meet_next (l : List Int) (n : Nat) : meet l 0 (nots (n + 1)) = some (some l :: nots n) := rfl

/-! values that lie n high -/
def pushI (i : Nat) : Ins := ⟨1, ((i % 100 : Nat) : Int), 2⟩
theorem push_isv (i : Nat) : Bv.isv 2 ((i % 100 : Nat) : Int) = true := by
  have h : i % 100 < 100 := Nat.mod_lt _ (by decide)
  simp only [Bv.isv, Bv.wid, Bv.wrp, Bool.and_eq_true, decide_eq_true_eq, beq_iff_eq]
  refine ⟨by decide, ?_⟩
  rw [if_neg (by decide), if_pos trivial]
  omega
theorem step_push (c : Code) (i : Nat) (l : List Int) : step c (pushI i) l = some (2 :: l) := by
  unfold step pushI
  rw [if_pos rfl]
  simp only
  rw [if_pos (push_isv i)]
def rep2 (n : Nat) : List Int := List.replicate n 2
theorem push_run (c : Code) : ∀ (m i k : Nat) (rest : List Ins) (x : Ins), ((k + m : Nat) : Int) ≤ c.stack →
    go c ((List.range' i m).map pushI ++ (x :: rest)) (some (rep2 k) :: nots (m + rest.length)) = go c (x :: rest) (some (rep2 (k + m)) :: nots rest.length)
  | 0, _, k, rest, x, _ => by simp
  | m + 1, i, k, rest, x, h => by
    have e : (List.range' i (m + 1)).map pushI ++ (x :: rest) = pushI i :: ((List.range' (i + 1) m).map pushI ++ (x :: rest)) := rfl
    rw [e, go, step_push]
    simp only
    have hl : (2 :: rep2 k) = rep2 (k + 1) := rfl
    rw [hl, if_neg (by simp [rep2]; omega), if_neg (by simp [pushI]), if_neg (by simp [pushI]), if_neg (by simp [pushI]), show m + 1 + rest.length = m + rest.length + 1 by omega, meet_next]
    simp only
    rw [push_run c m (i + 1) (k + 1) rest x (by omega), show k + 1 + m = k + (m + 1) by omega]
theorem push_over (c : Code) (m i : Nat) (k : Nat) (rest : List Ins) (h : c.stack < ((k + 1 : Nat) : Int)) (ps : List (Option (List Int))) : go c ((List.range' i (m + 1)).map pushI ++ rest) (some (rep2 k) :: ps) = false := by
  have e : (List.range' i (m + 1)).map pushI ++ rest = pushI i :: ((List.range' (i + 1) m).map pushI ++ rest) := rfl
  rw [e, go, step_push]
  simp only
  rw [if_pos (by simp [rep2]; omega)]
def addI : Ins := ⟨5, 3, 2⟩
theorem step_add (c : Code) (k : Nat) : step c addI (rep2 (k + 2)) = some (rep2 (k + 1)) := by
  have h : Bv.binB 3 2 0 0 = true := by decide
  have e : rep2 (k + 2) = 2 :: 2 :: rep2 k := rfl
  rw [e]
  unfold step addI
  rw [if_neg (by decide), if_neg (by decide), if_neg (by decide), if_neg (by decide), if_pos (by decide)]
  simp only
  rw [if_pos ⟨trivial, trivial, h⟩]
  rfl
theorem add_run (c : Code) : ∀ (m : Nat) (rest : List Ins) (x : Ins), ((m + 1 : Nat) : Int) ≤ c.stack →
    go c (List.replicate m addI ++ (x :: rest)) (some (rep2 (m + 1)) :: nots (m + rest.length)) = go c (x :: rest) (some (rep2 1) :: nots rest.length)
  | 0, rest, x, _ => by simp
  | m + 1, rest, x, h => by
    rw [List.replicate_succ, List.cons_append, go, step_add]
    simp only
    rw [if_neg (by simp [rep2]; omega), if_neg (by simp [addI]), if_neg (by simp [addI]), if_neg (by simp [addI]), show m + 1 + rest.length = m + rest.length + 1 by omega, meet_next]
    simp only
    exact add_run c m rest x (by omega)
def stackB (n : Nat) : List Ins := (List.range' 0 n).map pushI ++ (List.replicate (n - 1) addI ++ [⟨3, 0, 0⟩, ⟨9, 0, 0⟩])
def stackK (n : Nat) (s : Int) : Code := ⟨[2], 0, 1, 0, [], s, stackB n⟩
theorem stackB_len (n : Nat) (h : 1 ≤ n) : (stackB n).length = 2 * n + 1 := by
  simp [stackB]
  omega
theorem stack_go (n : Nat) (s : Int) (h1 : 1 ≤ n) (h0 : 0 ≤ s) : go (stackK n s) (stackB n) (some [] :: nots (2 * n)) = decide ((n : Int) ≤ s) := by
  obtain ⟨m, rfl⟩ : ∃ m, n = m + 1 := ⟨n - 1, by omega⟩
  by_cases h : ((m + 1 : Nat) : Int) ≤ s
  · rw [decide_eq_true h]
    unfold stackB
    have e : List.replicate (m + 1 - 1) addI ++ [⟨3, 0, 0⟩, ⟨9, 0, 0⟩] = List.replicate m addI ++ ((⟨3, 0, 0⟩ : Ins) :: [⟨9, 0, 0⟩]) := rfl
    rw [e]
    cases m with
    | zero =>
      have := push_run (stackK 1 s) 1 0 0 [⟨9, 0, 0⟩] ⟨3, 0, 0⟩ (by simpa [stackK] using h)
      refine Eq.trans this ?_
      simp [go, step, stackK, rep2, nots, meet]
      omega
    | succ m =>
      have e2 : List.replicate (m + 1) addI ++ ((⟨3, 0, 0⟩ : Ins) :: [⟨9, 0, 0⟩]) = addI :: (List.replicate m addI ++ ((⟨3, 0, 0⟩ : Ins) :: [⟨9, 0, 0⟩])) := rfl
      have p := push_run (stackK (m + 1 + 1) s) (m + 1 + 1) 0 0 (List.replicate m addI ++ ((⟨3, 0, 0⟩ : Ins) :: [⟨9, 0, 0⟩])) addI (by simpa [stackK] using h)
      have el : (List.replicate m addI ++ ((⟨3, 0, 0⟩ : Ins) :: [⟨9, 0, 0⟩])).length = m + 2 := by simp
      rw [el, show m + 1 + 1 + (m + 2) = 2 * (m + 1 + 1) by omega] at p
      rw [e2]
      refine Eq.trans p ?_
      have q := add_run (stackK (m + 1 + 1) s) (m + 1) [⟨9, 0, 0⟩] ⟨3, 0, 0⟩ (by simpa [stackK] using h)
      rw [show m + 1 + [(⟨9, 0, 0⟩ : Ins)].length = m + 2 by simp] at q
      rw [show 0 + (m + 1 + 1) = m + 1 + 1 by omega]
      refine Eq.trans q ?_
      simp [go, step, stackK, rep2, nots, meet]
      omega
  · rw [decide_eq_false h]
    unfold stackB
    obtain ⟨k, hk⟩ : ∃ k : Nat, s = (k : Int) := ⟨s.toNat, by omega⟩
    subst hk
    have hkm : k ≤ m := by omega
    have es : (List.range' 0 (m + 1)).map pushI = (List.range' 0 k).map pushI ++ (pushI k :: (List.range' (k + 1) (m - k)).map pushI) := by
      rw [← List.map_cons, ← List.map_append]
      congr 1
      have : List.range' 0 k ++ List.range' (0 + k) (m + 1 - k) = List.range' 0 (k + (m + 1 - k)) := by simpa using List.range'_append (s := 0) (m := k) (n := m + 1 - k) (step := 1)
      rw [show k + (m + 1 - k) = m + 1 by omega, show m + 1 - k = m - k + 1 by omega, Nat.zero_add] at this
      rw [← this]
      rfl
    rw [es, List.append_assoc, List.cons_append]
    generalize hrest : (List.range' (k + 1) (m - k)).map pushI ++ (List.replicate (m + 1 - 1) addI ++ [⟨3, 0, 0⟩, ⟨9, 0, 0⟩]) = rest
    have hlen : rest.length = 2 * (m + 1) - k := by
      rw [← hrest]
      simp
      omega
    have p := push_run (stackK (m + 1) (k : Int)) k 0 0 rest (pushI k) (by simp [stackK])
    rw [hlen, show k + (2 * (m + 1) - k) = 2 * (m + 1) by omega] at p
    refine Eq.trans p ?_
    rw [Nat.zero_add, go, step_push]
    simp only
    rw [if_pos (by simp [rep2, stackK]; omega)]
theorem stack_check (n : Nat) (s : Int) (h1 : 1 ≤ n) (hn : n ≤ 70) (h0 : 0 ≤ s) : check (stackK n s) = if 64 < s then 2 else if s < n then 50 else 0 := by
  unfold check
  have hl := stackB_len n h1
  by_cases h : 64 < s
  · rw [if_pos (.inr (.inr h)), if_pos h]
  · have hall : (stackB n).all (fun x => decide (1 ≤ x.op) && decide (x.op ≤ 9)) = true := by
      unfold stackB
      rw [List.all_append, List.all_append, Bool.and_eq_true, Bool.and_eq_true]
      refine ⟨List.all_eq_true.2 fun x hx => ?_, List.all_eq_true.2 fun x hx => ?_, by decide⟩
      · obtain ⟨i, _, rfl⟩ := List.mem_map.1 hx; rfl
      · obtain rfl := List.eq_of_mem_replicate hx; decide
    have hlast : (stackB n).getLast? = some ⟨9, 0, 0⟩ := by
      unfold stackB
      simp
    have hb : bad (stackK n s) = false := by
      have e : (stackK n s).body = stackB n := rfl
      unfold bad
      rw [e, hall, hlast]
      have hd : decide (s < 0) = false := by rw [decide_eq_false_iff_not]; omega
      simp [stackK, Bv.wid]
      exact hd
    have hk1 : (stackK n s).body.length = 2 * n + 1 := hl
    have hk2 : (stackK n s).kinds.length = 1 := rfl
    have hk3 : (stackK n s).stack = s := rfl
    rw [if_neg (by rw [hk1, hk2, hk3]; omega), hb, if_neg (by simp), if_neg h, hk1, show 2 * n + 1 - 1 = 2 * n by omega]
    have := stack_go n s h1 h0
    have e : go (stackK n s) (stackK n s).body (some [] :: List.replicate (2 * n) none) = decide ((n : Int) ≤ s) := this
    rw [e]
    by_cases h2 : (n : Int) ≤ s
    · rw [decide_eq_true h2, if_pos rfl, if_neg (by omega)]
    · rw [decide_eq_false h2, if_neg (by simp), if_pos (by omega)]

/-! jumps -/
def j0 : Ins := ⟨7, 0, 0⟩
def endI : Ins := ⟨9, 0, 0⟩
def fine (p : Option (List Int)) : Prop := p = none ∨ p = some []
theorem meet_fine : ∀ (n : Nat) (ps : List (Option (List Int))), (∀ p ∈ ps, fine p) → n < ps.length → ∃ q, meet [] n ps = some q ∧ q.length = ps.length ∧ ∀ p ∈ q, fine p
  | 0, none :: ps, h, _ => ⟨_, rfl, rfl, fun p hp => by
      rcases List.mem_cons.1 hp with rfl | hp
      · exact .inr rfl
      · exact h p (by simp [hp])⟩
  | 0, some m :: ps, h, _ => by
    have hm : m = [] := by rcases h (some m) (by simp) with h | h <;> simp_all
    subst hm
    exact ⟨_, rfl, rfl, h⟩
  | n + 1, p :: ps, h, hl => by
    obtain ⟨q, h1, h2, h3⟩ := meet_fine n ps (fun x hx => h x (by simp [hx])) (by simpa using hl)
    refine ⟨p :: q, by simp [meet, h1], by simp [h2], fun x hx => ?_⟩
    rcases List.mem_cons.1 hx with rfl | hx
    · exact h _ (by simp)
    · exact h3 x hx
  | _, [], _, hl => by simp at hl
theorem meet_far : ∀ (n : Nat) (ps : List (Option (List Int))) (l : List Int), ps.length ≤ n → meet l n ps = none
  | 0, [], _, _ => rfl
  | _ + 1, [], _, _ => rfl
  | 0, _ :: _, _, h => by simp at h
  | n + 1, p :: ps, l, h => by simp [meet, meet_far n ps l (by simpa using h)]
theorem jumps_run (c : Code) (hs : 0 ≤ c.stack) : ∀ (m : Nat) (ps : List (Option (List Int))), ps.length = m + 1 → (∀ p ∈ ps, fine p) → go c (List.replicate m j0 ++ [endI]) ps = true
  | 0, [p], _, h => by
    rcases h p (by simp) with rfl | rfl
    · simp [go]
    · simp [go, step, endI]
      omega
  | m + 1, p :: ps, hl, h => by
    have ih := fun q h1 h2 => jumps_run c hs m q h1 h2
    rw [List.replicate_succ, List.cons_append]
    rcases h p (by simp) with rfl | rfl
    · rw [go]
      exact ih ps (by simpa using hl) (fun x hx => h x (by simp [hx]))
    · obtain ⟨q, h1, h2, h3⟩ := meet_fine 0 ps (fun x hx => h x (by simp [hx])) (by simp at hl; omega)
      have e : step c j0 [] = some [] := by simp [step, j0]
      rw [go, e]
      simp only
      rw [if_neg (by simp; omega), if_neg (by simp [j0]), if_pos (show j0.op = 7 from rfl), if_neg (by simp [j0]), show (j0.n.toNat) = 0 from rfl, h1]
      exact ih q (by rw [h2]; simpa using hl) h3
  | 0, [], h, _ => by simp at h
  | _ + 1, [], h, _ => by simp at h
  | 0, _ :: _ :: _, h, _ => by simp at h
theorem jumps_ahead (c : Code) (hs : 0 ≤ c.stack) : ∀ (m : Nat) (x : Ins) (rest : List Ins), go c (List.replicate m j0 ++ (x :: rest)) (some [] :: nots (m + rest.length)) = go c (x :: rest) (some [] :: nots rest.length)
  | 0, x, rest => by simp
  | m + 1, x, rest => by
    have e : step c j0 [] = some [] := by simp [step, j0]
    rw [List.replicate_succ, List.cons_append, go, e]
    simp only
    rw [if_neg (by simp; omega), if_neg (by simp [j0]), if_pos (show j0.op = 7 from rfl), if_neg (by simp [j0]), show (j0.n.toNat) = 0 from rfl, show m + 1 + rest.length = m + rest.length + 1 by omega, meet_next]
    exact jumps_ahead c hs m x rest
theorem nots_fine (n : Nat) : ∀ p ∈ nots n, fine p := fun _ hp => .inl (List.eq_of_mem_replicate hp)
/-- the bodies: r jumps behind, then the end -/
def jumpB (at_ r : Nat) (by_ : Int) : List Ins := List.replicate at_ j0 ++ (⟨7, by_, 0⟩ :: (List.replicate r j0 ++ [endI]))
def whenB (at_ r : Nat) (by_ : Int) : List Ins := List.replicate at_ j0 ++ (⟨1, 1, 1⟩ :: ⟨8, by_, 0⟩ :: (List.replicate r j0 ++ [endI]))
theorem jump_go (c : Code) (hs : 0 ≤ c.stack) (at_ r : Nat) (by_ : Int) : go c (jumpB at_ r by_) (some [] :: nots (at_ + (r + 1))) = decide (0 ≤ by_ ∧ by_ ≤ r) := by
  unfold jumpB
  have hl : (List.replicate r j0 ++ [endI]).length = r + 1 := by simp
  have p := jumps_ahead c hs at_ ⟨7, by_, 0⟩ (List.replicate r j0 ++ [endI])
  rw [hl] at p
  rw [p, go]
  have e : step c ⟨7, by_, 0⟩ [] = some [] := by simp [step]
  rw [e]
  simp only
  rw [if_neg (by simp; omega), if_neg (by decide), if_pos trivial]
  by_cases h0 : by_ < 0
  · rw [if_pos h0, decide_eq_false (by omega)]
  · rw [if_neg h0]
    by_cases h : by_ ≤ r
    · obtain ⟨q, h1, h2, h3⟩ := meet_fine by_.toNat (nots (r + 1)) (nots_fine _) (by simp [nots]; omega)
      rw [h1, decide_eq_true ⟨by omega, h⟩]
      exact jumps_run c hs r q (by rw [h2]; simp [nots]) h3
    · rw [meet_far _ _ _ (by simp [nots]; omega), decide_eq_false (by omega)]
theorem when_go (c : Code) (hs : 1 ≤ c.stack) (at_ r : Nat) (by_ : Int) : go c (whenB at_ r by_) (some [] :: nots (at_ + (r + 2))) = decide (0 ≤ by_ ∧ by_ ≤ r) := by
  unfold whenB
  have hl : (⟨8, by_, 0⟩ :: (List.replicate r j0 ++ [endI])).length = r + 2 := by simp
  have p := jumps_ahead c (by omega) at_ ⟨1, 1, 1⟩ (⟨8, by_, 0⟩ :: (List.replicate r j0 ++ [endI]))
  rw [hl] at p
  rw [p, go]
  have e : step c ⟨1, 1, 1⟩ [] = some [1] := by
    have : Bv.isv 1 1 = true := by decide
    simp [step, this]
  rw [e]
  simp only
  rw [if_neg (by simp; omega), if_neg (by decide), if_neg (by decide), if_neg (by decide), show r + 2 = r + 1 + 1 by omega, meet_next]
  simp only
  rw [go]
  have e2 : step c ⟨8, by_, 0⟩ [1] = some [] := by simp [step]
  rw [e2]
  simp only
  rw [if_neg (by simp; omega), if_neg (by decide), if_neg (by decide), if_pos trivial]
  by_cases h0 : by_ < 0
  · rw [if_pos h0, decide_eq_false (by omega)]
  · rw [if_neg h0]
    obtain ⟨q, h1, h2, h3⟩ := meet_fine 0 (nots (r + 1)) (nots_fine _) (by simp [nots])
    rw [h1]
    simp only
    by_cases h : by_ ≤ r
    · obtain ⟨q2, k1, k2, k3⟩ := meet_fine by_.toNat q h3 (by rw [h2]; simp [nots]; omega)
      rw [k1, decide_eq_true ⟨by omega, h⟩]
      exact jumps_run c (by omega) r q2 (by rw [k2, h2]; simp [nots]) k3
    · rw [meet_far _ _ _ (by rw [h2]; simp [nots]; omega), decide_eq_false (by omega)]
theorem last_j (r : Nat) (x : Ins) : (x :: (List.replicate r j0 ++ [endI])).getLast? = some endI := by
  rw [← List.cons_append, List.getLast?_append]
  rfl
theorem all_j (r : Nat) : (List.replicate r j0).all (fun x => decide (1 ≤ x.op) && decide (x.op ≤ 9)) = true := List.all_eq_true.2 fun x hx => by obtain rfl := List.eq_of_mem_replicate hx; decide
theorem all_je (r : Nat) : (List.replicate r j0 ++ [endI]).all (fun x => decide (1 ≤ x.op) && decide (x.op ≤ 9)) = true := by rw [List.all_append, all_j]; decide
def jumpC (b : List Ins) : Code := ⟨[], 0, 0, 0, [], 1, b⟩
theorem jumpC_check (b : List Ins) (hl : b.length ≤ 1000) (h9 : b.getLast? = some endI) (ha : (b.all fun x => decide (1 ≤ x.op) && decide (x.op ≤ 9)) = true) : check (jumpC b) = if go (jumpC b) b (some [] :: nots (b.length - 1)) then 0 else 50 := by
  have hb : bad (jumpC b) = false := by
    have e : (jumpC b).body = b := rfl
    unfold bad
    rw [e, h9, ha]
    simp [jumpC, endI]
  unfold check
  rw [if_neg (by simp [jumpC]; omega), hb, if_neg (by simp)]
  rfl
theorem jump_check (at_ r : Nat) (by_ : Int) (h : at_ + r ≤ 500) : check (jumpC (jumpB at_ r by_)) = if 0 ≤ by_ ∧ by_ ≤ r then 0 else 50 := by
  have hl : (jumpB at_ r by_).length = at_ + (r + 2) := by simp [jumpB]
  rw [jumpC_check _ (by omega) (by unfold jumpB; rw [List.getLast?_append, last_j]; rfl) (by unfold jumpB; rw [List.all_append, all_j, List.all_cons, all_je]; rfl), hl, show at_ + (r + 2) - 1 = at_ + (r + 1) by omega, jump_go _ (show (0 : Int) ≤ 1 by decide)]
  by_cases hc : 0 ≤ by_ ∧ by_ ≤ r
  · rw [decide_eq_true hc, if_pos rfl, if_pos hc]
  · rw [decide_eq_false hc, if_neg (by simp), if_neg hc]
theorem when_check (at_ r : Nat) (by_ : Int) (h : at_ + r ≤ 500) : check (jumpC (whenB at_ r by_)) = if 0 ≤ by_ ∧ by_ ≤ r then 0 else 50 := by
  have hl : (whenB at_ r by_).length = at_ + (r + 3) := by simp [whenB]
  rw [jumpC_check _ (by omega) (by unfold whenB; rw [List.getLast?_append, List.getLast?_cons_cons, last_j]; rfl) (by unfold whenB; rw [List.all_append, all_j, List.all_cons, List.all_cons, all_je]; rfl), hl, show at_ + (r + 3) - 1 = at_ + (r + 2) by omega, when_go _ (show (1 : Int) ≤ 1 by decide)]
  by_cases hc : 0 ≤ by_ ∧ by_ ≤ r
  · rw [decide_eq_true hc, if_pos rfl, if_pos hc]
  · rw [decide_eq_false hc, if_neg (by simp), if_neg hc]

end Go.Proofs.Ytlppifnepckpiaa.Cd
