/- My texts TcR TcS TcT TcU TcV TcW, joined. -/
import Derived.Test.YtbbamgjdnibldaaGreatMhK
import Derived.Defers
set_option linter.unusedVariables false
set_option linter.unusedSimpArgs false
set_option linter.unnecessarySimpa false
set_option linter.unusedSectionVars false
set_option maxHeartbeats 12800000
set_option maxRecDepth 20000
namespace Go.Proofs.YtbbamgjdnibldaaGreat
open Go.RowKit Go.Maps Go.WideMaps
namespace Ty
def ofK (st : St) : List Gram.Exp → List T × Nam.F
 | [] => ([], (0, 0))
 | x :: r => if (of st x).2.2 ≠ 0 then ([], (of st x).2) else if (of st x).1.length ≠ 1 then ([], (x.at_, 23)) else if (ofK st r).2.2 ≠ 0 then ([], (ofK st r).2) else (k0 (of st x).1 :: (ofK st r).1, (0, 0))
theorem ofL_take (st : St) : ∀ (m : Nat) (l : List Gram.Exp), ofL st m l = ofK st (l.take m)
 | 0, l => by cases l <;> simp [ofL, ofK]
 | m + 1, [] => by simp [ofL, ofK]
 | m + 1, x :: r => by
  have ih := ofL_take st m r
  rw [List.take_succ_cons]
  simp only [ofL, ofK, ih]
theorem ofK_zero (st : St) : ∀ l : List Gram.Exp, (ofK st l).2.2 = 0 → (ofK st l).2 = (0, 0)
 | [] => fun _ => rfl
 | x :: r => by
  unfold ofK
  by_cases h1 : (of st x).2.2 = 0
  ·rw [if_neg (by simp [h1])]
   by_cases h2 : (of st x).1.length = 1
   ·rw [if_neg (by simp [h2])]
    by_cases h3 : (ofK st r).2.2 = 0
    ·rw [if_neg (by simp [h3])]; exact fun _ => rfl
    ·rw [if_pos h3]; exact fun e => absurd e h3
   ·rw [if_pos h2]; intro e; simp at e
  ·rw [if_pos h1]; exact fun e => absurd e h1
def kid1 (st : St) (K : List T) (x : Gram.Exp) : List T × Nam.F := if (of st x).2.2 ≠ 0 then ([], (of st x).2) else if (of st x).1.length ≠ 1 then ([], (x.at_, 23)) else (K ++ [k0 (of st x).1], (0, 0))
theorem ofK_next (st : St) : ∀ (l : List Gram.Exp) (t : Nat) (x : Gram.Exp), l[t]? = some x → (ofK st (l.take t)).2.2 = 0 → ofK st (l.take (t + 1)) = kid1 st (ofK st (l.take t)).1 x
 | [], t, x => by simp
 | y :: r, 0, x => by
  intro h _
  simp at h
  subst h
  simp [ofK, kid1]
 | y :: r, t + 1, x => by
  intro h
  have ih := ofK_next st r t x (by simpa using h)
  rw [List.take_succ_cons, List.take_succ_cons]
  simp only [ofK]
  by_cases h1 : (of st y).2.2 = 0
  ·by_cases h2 : (of st y).1.length = 1
   ·by_cases h3 : (ofK st (r.take t)).2.2 = 0
    ·intro _
     rw [ih h3]
     simp only [h1, h2, h3, ne_eq, not_true, if_false]
     unfold kid1
     by_cases g1 : (of st x).2.2 = 0
     ·by_cases g2 : (of st x).1.length = 1
      ·simp [g1, g2]
      ·simp [g1, g2]
     ·simp [g1]
    ·intro e; simp [h1, h2, h3] at e
   ·intro e; simp [h1, h2] at e
  ·intro e; simp [h1] at e
theorem ofK_bad (st : St) : ∀ (l : List Gram.Exp) (t : Nat), (ofK st (l.take t)).2.2 ≠ 0 → ofK st l = ofK st (l.take t)
 | [], t => by simp
 | y :: r, 0 => by simp [ofK]
 | y :: r, t + 1 => by
  rw [List.take_succ_cons]
  simp only [ofK]
  by_cases h1 : (of st y).2.2 = 0
  ·by_cases h2 : (of st y).1.length = 1
   ·by_cases h3 : (ofK st (r.take t)).2.2 = 0
    ·intro e; simp [h1, h2, h3] at e
    ·intro _
     rw [ofK_bad st r t h3]
   ·intro _; simp [h1, h2]
  ·intro _; simp [h1]
theorem ofK_full (st : St) : ∀ l : List Gram.Exp, (ofK st l).2.2 = 0 → (ofK st l).1.length = l.length
 | [] => fun _ => rfl
 | x :: r => by
  have ih := ofK_full st r
  unfold ofK
  by_cases h1 : (of st x).2.2 = 0
  ·rw [if_neg (by simp [h1])]
   by_cases h2 : (of st x).1.length = 1
   ·rw [if_neg (by simp [h2])]
    by_cases h3 : (ofK st r).2.2 = 0
    ·rw [if_neg (by simp [h3])]; intro _; simp [ih h3]
    ·rw [if_pos h3]; exact fun e => absurd e h3
   ·rw [if_pos h2]; intro e; simp at e
  ·rw [if_pos h1]; exact fun e => absurd e h1
def wfB (z : Int) : Bool := (Lit.int .i64 z).wf
mutual
def fineE : Gram.Exp → Bool
 | .mk _ _ nm tk tl n _ ks _ => Nam.short nm && wfB tk && wfB tl && decide (0 ≤ tl) && wfB n && decide (ks.length ≤ 10000) && fineL ks
def fineL : List Gram.Exp → Bool
 | [] => true
 | x :: r => fineE x && fineL r
end
theorem fineL_at : ∀ {l : List Gram.Exp} {t : Nat} {x : Gram.Exp}, fineL l = true → l[t]? = some x → fineE x = true
 | [], t, x, _, h => by simp at h
 | y :: r, 0, x, hf, h => by simp at h; subst h; simp [fineL] at hf; exact hf.1
 | y :: r, t + 1, x, hf, h => by simp [fineL] at hf; exact fineL_at hf.2 (by simpa using h)
end Ty
def ofPost (w : World) (r : List Ty.T × Nam.F) (e : Ending) (w' : World) : Prop :=
 ∃ a n k, e = .returned (.tuple #[.slice a n k, .agg #[.int .i64 r.2.1, .int .i64 r.2.2]]) ∧ w.grownBy w' none ∧ (r.2.2 = 0 → n = r.1.length ∧ n ≤ 100000 ∧ TyL w' a r.1 ∧ ∀ x ∈ r.1, wfT x)
def kPost (w : World) (r : List Ty.T × Nam.F) (e : Ending) (w' : World) : Prop :=
 ∃ a n k, e = .returned (.tuple #[.slice a n k, .agg #[.int .i64 r.2.1, .int .i64 r.2.2]]) ∧ w.grownBy w' none ∧ (r.2.2 = 0 → n = r.1.length ∧ n ≤ 100000 ∧ w'.ownsRow w.heap.size 57 2 (.slice a n k) n (tyR r.1) ∧ ∀ x ∈ r.1, wfT x)
theorem results_tmp_cell {P : Program} {fn : Func} {p u : Tmp} {ty : TypeId} (h : fn.results = #[.tmp u, .cell p ty]) (tmps : Array Value) (w : World) (g : Nat) (t : TypeId) (cs : Array Value) (fr : Nat × Nat) (d : TypeDesc) (v : Value) (hv : tmps.getD u undef = v)
  (hp : tmps.getD p undef = .pointer (some ⟨g, 0, none⟩)) (hg : w.heap[g]? = some (.cells cs t fr))
  (hu : P.underlying ty = some d) (hd : (match d with | .struct _ | .array _ _ => true | _ => false) = true) (hi : (P.info? ty).map (·.size) = some cs.size) :
  (results fn tmps).run P w = .ok (.tuple #[v, .agg cs]) w := by
 have hp' : tmps[p]?.getD undef = .pointer (some ⟨g, 0, none⟩) := by simpa using hp
 have hv' : tmps[u]?.getD undef = v := by simpa using hv
 simp [results, h, hp', hv', asAddr, run_loadVar_row w g t ty cs fr d hg hu hd hi]
theorem run_storeF {a : Act} {oi : Oper} {V : World} {g : Nat} {x0 x1 y0 y1 : Int} (x y : Operand) (ho : oi.op = .store 46 x y) (hx : a.eval x = .pointer (some ⟨g, 0, none⟩)) (hy : a.eval y = .agg #[.int .i64 y0, .int .i64 y1]) (h : V.heap[g]? = some (.cells #[.int .i64 x0, .int .i64 x1] 46 (0, 0))) :
  (execOp a.eval oi).run Tryz.prog V = .ok .skip (V.setRow g #[.int .i64 y0, .int .i64 y1]) := by
 have hin : (Tryz.prog.info? 46).map (·.size) = some 2 := by kernel_rfl
 unfold execOp
 simp only [ho, hx, hy, Instr.storeAt, Instr.sureAddr, Sem.run_bind, Sem.run_pure, Result.andThen_ok, run_storeVar_row V g 46 46 #[.int .i64 x0, .int .i64 x1] #[.int .i64 y0, .int .i64 y1] h hin rfl (by simp [Value.oneCell'])]
def COf (w0 : World) (A : Aa) (N : List (List UInt8 × (Gram.Node × Nv))) (V : List (List UInt8 × Ty.T)) (cnt m : Nat) : Prop :=
 ∀ x : Gram.Exp, SizeOf.sizeOf x ≤ m → Ty.fineE x = true → ∀ (w : World) (ka : Option Addr) (kn kc : Nat), Ak w0 w A N V cnt → KidsX w0 0 [] x.kids (.slice ka kn kc) → Calls Tryz.prog 122 #[.pointer (some ⟨A.c, 0, none⟩), .agg (expCells x (.slice ka kn kc)).toArray] w (ofPost w (Ty.of (stOf N V) x))
theorem kidsCap {w : World} {B : Nat} {E : List Nat} {L cap : Nat} {a : Option Addr} {es : List Gram.Exp} (h : KidsX w B E es (.slice a L cap)) : L ≤ cap := by
 unfold KidsX at h
 cases h with
 | l ho _ _ =>
  rcases ho.2 with ⟨h0, h1⟩ | ⟨g, cap, cur, h0, _, _, h2, _⟩
  ·cases h0; exact Nat.le_refl _
  ·cases h0; exact h2
theorem rowAt {w : World} {B n : Nat} {e : TypeId} {sz : Nat} {v : Value} {xs : List Value} {k : Nat} (h : w.ownsRow B e sz v n xs) (hk : v.ownBlock = some k) : ∃ cs, w.heap[k]? = some (.cells cs e (0, 0)) := by
 rcases h.2 with ⟨rfl, _⟩ | ⟨g, cap, cur, rfl, _, hh, _⟩
 ·cases hk
 ·cases hk; exact ⟨_, hh⟩
def fau0 : Obj := .cells #[.int .i64 0, .int .i64 0] 46
theorem tkids {w0 w : World} {A : Aa} {N : List (List UInt8 × (Gram.Node × Nv))} {V : List (List UInt8 × Ty.T)} {cnt : Nat} (h : Ak w0 w A N V cnt) (f s : Int) (nm : List UInt8) (tk tl n m : Int) (ks : List Gram.Exp) (at_ : Int) (ka : Option Addr) (kn kc : Nat) (hk : KidsX w0 0 [] ks (.slice ka kn kc)) (hfl : Ty.fineL ks = true) (hlen : ks.length ≤ 10000) (sz : Nat) (hof : COf w0 A N V cnt sz) (hsz : ∀ (t : Nat) k, ks[t]? = some k → SizeOf.sizeOf k ≤ sz) (least : Nat) (most : Int) (F mm : Nat) (hmm : (most = (mm : Int) ∧ mm < kn) ∨ ((kn : Int) ≤ most ∧ mm = kn)) :
  Calls Tryz.prog 160 #[.pointer (some ⟨A.c, 0, none⟩), .agg #[.int .i64 f, .int .i64 s, .string ⟨nm.toArray⟩, .int .i64 tk, .int .i64 tl, .int .i64 n, .int .i64 m, .slice ka kn kc, .int .i64 at_], .agg #[.int .i64 (least : Int), .int .i64 most, .func (.func F) #[] #[]]] w (kPost w (if ks.length < least then ([], (at_, 23)) else Ty.ofK (stOf N V) (ks.take mm))) := by
 obtain ⟨hL, hLm⟩ := kidsLen hk
 have hcap : kn ≤ kc := kidsCap hk
 have hg3 : w.grownBy (((w.alloc (.cells #[.int .i64 f, .int .i64 s, .string ⟨nm.toArray⟩, .int .i64 tk, .int .i64 tl, .int .i64 n, .int .i64 m, .slice ka kn kc, .int .i64 at_] 85)).alloc (.cells #[.int .i64 (least : Int), .int .i64 most, .func (.func F) #[] #[]] 101)).alloc fau0) none := galloc3 w _ _ _
 have e8 : (((w.alloc (.cells #[.int .i64 f, .int .i64 s, .string ⟨nm.toArray⟩, .int .i64 tk, .int .i64 tl, .int .i64 n, .int .i64 m, .slice ka kn kc, .int .i64 at_] 85)).alloc (.cells #[.int .i64 (least : Int), .int .i64 most, .func (.func F) #[] #[]] 101)).alloc fau0).cell? ⟨w.heap.size, 8, none⟩ = some (.int .i64 at_) := (galloc2 _ _ _).cell (cell_of_row _ _ 8 _ _ _ (heap_alloc_new w (.cells #[.int .i64 f, .int .i64 s, .string ⟨nm.toArray⟩, .int .i64 tk, .int .i64 tl, .int .i64 n, .int .i64 m, .slice ka kn kc, .int .i64 at_] 85))) (by simp)
 have hrb : (((w.alloc (.cells #[.int .i64 f, .int .i64 s, .string ⟨nm.toArray⟩, .int .i64 tk, .int .i64 tl, .int .i64 n, .int .i64 m, .slice ka kn kc, .int .i64 at_] 85)).alloc (.cells #[.int .i64 (least : Int), .int .i64 most, .func (.func F) #[] #[]] 101)).alloc fau0).heap[w.heap.size + 1 + 1]? = some (.cells #[.int .i64 0, .int .i64 0] 46 (0, 0)) := by
  have := heap_alloc_2 (w.alloc (.cells #[.int .i64 f, .int .i64 s, .string ⟨nm.toArray⟩, .int .i64 tk, .int .i64 tl, .int .i64 n, .int .i64 m, .slice ka kn kc, .int .i64 at_] 85)) (.cells #[.int .i64 (least : Int), .int .i64 most, .func (.func F) #[] #[]] 101) fau0
  rw [World.size_alloc] at this
  exact this
 by_cases hll : ks.length < least
 ·rw [if_pos hll]
  have hlt : kn < least := by omega
  have HG3 := ld hg3
  clear hL hll hmm hk hof hsz hg3 hcap hLm
  unfold fau0 at *
  go_enter Tryz.func160, Tryz.ntmps160
  go_wp2
  refine wp_region_L (S := fun V => ((((w.alloc (.cells #[.int .i64 f, .int .i64 s, .string ⟨nm.toArray⟩, .int .i64 tk, .int .i64 tl, .int .i64 n, .int .i64 m, .slice ka kn kc, .int .i64 at_] 85)).alloc (.cells #[.int .i64 (least : Int), .int .i64 most, .func (.func F) #[] #[]] 101)).alloc (.cells #[.int .i64 0, .int .i64 0] 46))).grownBy V (some (w.heap.size + 1 + 1))) (Z := []) (by kernel_rfl) ?_
  have hS := gdrew (World.grownBy.refl ((((w.alloc (.cells #[.int .i64 f, .int .i64 s, .string ⟨nm.toArray⟩, .int .i64 tk, .int .i64 tl, .int .i64 n, .int .i64 m, .slice ka kn kc, .int .i64 at_] 85)).alloc (.cells #[.int .i64 (least : Int), .int .i64 most, .func (.func F) #[] #[]] 101)).alloc (.cells #[.int .i64 0, .int .i64 0] 46))) (some (w.heap.size + 1 + 1)))
  refine Wl.t1 0 19 (.pointer (some ⟨w.heap.size, 8, none⟩)) hS ?_
  (try simp only [Act.put, Wl.sA, Wl.sB, Wl.sC])
  refine Wl.t2 1 20 (.int .i64 at_) (fun w' hw' => ?_) hS ?_
  ·have hc0 := hw'.cell e8 (by simp; omega); clear hw'; go_simp
  (try simp only [Act.put, Wl.sA, Wl.sB, Wl.sC])
  refine Wl.t1 2 21 (.agg #[.int .i64 at_, .int .i64 23]) hS ?_
  (try simp only [Act.put, Wl.sA, Wl.sB, Wl.sC])
  refine Wl.t1 3 6 ((.slice none 0 0)) hS ?_
  (try simp only [Act.put, Wl.sA, Wl.sB, Wl.sC])
  have hrbd : ((((w.alloc (.cells #[.int .i64 f, .int .i64 s, .string ⟨nm.toArray⟩, .int .i64 tk, .int .i64 tl, .int .i64 n, .int .i64 m, .slice ka kn kc, .int .i64 at_] 85)).alloc (.cells #[.int .i64 (least : Int), .int .i64 most, .func (.func F) #[] #[]] 101)).alloc (.cells #[.int .i64 0, .int .i64 0] 46))).drew.heap[w.heap.size + 1 + 1]? = some (.cells #[.int .i64 0, .int .i64 0] 46 (0, 0)) := hrb
  have hst := rowSet (cs := #[.int .i64 at_, .int .i64 23]) hrbd
  refine Wl.sk 4 (((((w.alloc (.cells #[.int .i64 f, .int .i64 s, .string ⟨nm.toArray⟩, .int .i64 tk, .int .i64 tl, .int .i64 n, .int .i64 m, .slice ka kn kc, .int .i64 at_] 85)).alloc (.cells #[.int .i64 (least : Int), .int .i64 most, .func (.func F) #[] #[]] 101)).alloc (.cells #[.int .i64 0, .int .i64 0] 46))).drew.setRow (w.heap.size + 1 + 1) #[.int .i64 at_, .int .i64 23]) (run_storeF _ _ rfl rfl rfl hrbd) (hS.trans hst.2) ?_
  (try simp only [Act.put, Wl.sA, Wl.sB, Wl.sC])
  refine wpL_done (by kernel_rfl) ?_ _
  obtain ⟨w7, hw7⟩ : ∃ w7, w7 = ((((w.alloc (.cells #[.int .i64 f, .int .i64 s, .string ⟨nm.toArray⟩, .int .i64 tk, .int .i64 tl, .int .i64 n, .int .i64 m, .slice ka kn kc, .int .i64 at_] 85)).alloc (.cells #[.int .i64 (least : Int), .int .i64 most, .func (.func F) #[] #[]] 101)).alloc (.cells #[.int .i64 0, .int .i64 0] 46))).drew.setRow (w.heap.size + 1 + 1) #[.int .i64 at_, .int .i64 23] := ⟨_, rfl⟩
  rw [← hw7] at hst ⊢
  have hg7 := hS.trans hst.2
  have hh7 := hst.1
  clear hst hS hw7
  go_wp2
  (try simp only [Exit.inBlock, Exit.then])
  refine bodyPost_ret (results_tmp_cell rfl _ _ (w.heap.size + 1 + 1) 46 _ (0, 0) _ (.slice none 0 0) rfl rfl hh7 Tryz.underlying46 rfl (by kernel_rfl)) rfl ?_
  exact ⟨_, _, _, rfl, HG3.out.andThen hg7 (fun j e => .inl (by cases e; omega)), fun e => by cases e⟩
 ·rw [if_neg hll]
  have hlt : least ≤ kn := by omega
  have hd9 : decide (kn < least) = false := by rw [decide_eq_false_iff_not]; omega
  obtain ⟨l, hl⟩ : ∃ l, l = ks.take mm := ⟨_, rfl⟩
  rw [← hl]
  have hmk : mm ≤ kn := by omega
  have hll2 : l.length = mm := by rw [hl, List.length_take]; omega
  have HLL := ld hll2
  have HAT : Hid (∀ (t : Nat) k, l[t]? = some k → ks[t]? = some k) := ld (fun t k ht => by rw [hl, List.getElem?_take] at ht; split at ht <;> simp_all)
  have H := ld h
  have HK := ld hk
  have HOF := ld (And.intro hof hsz)
  have HFL := ld hfl
  have HG3 := ld (And.intro hg3 hrb)
  have hm1 : mm ≤ 10000 := by omega
  have hmc : mm ≤ kc := by omega
  have HKNL := ld hL
  clear hL hll hk hof hsz hg3 hfl hl hll2 hlen h e8 hrb
  unfold fau0 at *
  rcases hmm with ⟨rfl, hm2⟩ | ⟨hm2, rfl⟩
  all_goals
   go_enter Tryz.func160, Tryz.ntmps160
   go_wp2
   go_loopw [8, 32] (fun lv iv wr => ∃ (t : Nat) (a' : Option Addr) (c' : Nat), t ≤ mm ∧ iv = .int .i64 (t : Int) ∧ lv = .slice a' t c' ∧ Hid (wr.ownsRow w.heap.size 57 2 (.slice a' t c') t (tyR (Ty.ofK (stOf N V) (l.take t)).1) ∧ (Ty.ofK (stOf N V) (l.take t)).2.2 = 0 ∧ (∀ x ∈ (Ty.ofK (stOf N V) (l.take t)).1, wfT x) ∧ w.grownBy wr none ∧ wr.heap[w.heap.size + 1 + 1]? = some (.cells #[.int .i64 0, .int .i64 0] 46 (0, 0)))) (fun _ i _ => mm - (intOf i).toNat)
   case atStart => exact ⟨0, none, 0, Nat.zero_le _, rfl, rfl, ld ⟨by simp only [List.take_zero, Ty.ofK]; exact World.ownsRow_nil _ _ _ _, by simp [Ty.ofK], by simp [Ty.ofK], HG3.out.1, HG3.out.2⟩⟩
   case round =>
    obtain ⟨t, a', c', htn, rfl, rfl, HQ⟩ := hrel
    obtain ⟨q1, q2, q3, q4, hrb⟩ := HQ.out
    obtain ⟨K, hK⟩ : ∃ K, K = (Ty.ofK (stOf N V) (l.take t)).1 := ⟨_, rfl⟩
    rw [← hK] at q1 q3
    by_cases hlt2 : t < mm
    ·obtain ⟨x, hx⟩ : ∃ x, l[t]? = some x := ⟨_, List.getElem?_eq_getElem (by rw [HLL.out]; exact hlt2)⟩
     have hnx := Ty.ofK_next (stOf N V) l t x hx q2
     rw [← hK] at hnx
     have hxk := HAT.out t x hx
     obtain ⟨g, p, q, r, rfl, hkx, hcs⟩ := expAt HK.out hxk
     have hsx := HOF.out.2 t x hxk
     have hfx := Ty.fineL_at HFL.out hxk
     cases x with
     | mk xf xs xn xk xl xN xm xks xa =>
     simp only [expCells, Gram.Exp.kids] at hcs hkx
     have hgr := H.out.base.trans q4
     have u0 := hgr.cell (hcs 0 _ rfl) (by simp)
     have u1 := hgr.cell (hcs 1 _ rfl) (by simp)
     have u2 := hgr.cell (hcs 2 _ rfl) (by simp)
     have u3 := hgr.cell (hcs 3 _ rfl) (by simp)
     have u4 := hgr.cell (hcs 4 _ rfl) (by simp)
     have u5 := hgr.cell (hcs 5 _ rfl) (by simp)
     have u6 := hgr.cell (hcs 6 _ rfl) (by simp)
     have u7 := hgr.cell (hcs 7 _ rfl) (by simp)
     have u8 := hgr.cell (hcs 8 _ rfl) (by simp)
     rw [Nat.add_zero] at u0
     have hga := ga wr (.cells #[.int .i64 xf, .int .i64 xs, .string ⟨xn.toArray⟩, .int .i64 xk, .int .i64 xl, .int .i64 xN, .int .i64 xm, .slice p q r, .int .i64 xa] 85 (0, 0)) none
     have hkb := heap_alloc_new wr (.cells #[.int .i64 xf, .int .i64 xs, .string ⟨xn.toArray⟩, .int .i64 xk, .int .i64 xl, .int .i64 xN, .int .i64 xm, .slice p q r, .int .i64 xa] 85 (0, 0))
     have hcall := HOF.out.1 _ hsx hfx (wr.alloc (.cells #[.int .i64 xf, .int .i64 xs, .string ⟨xn.toArray⟩, .int .i64 xk, .int .i64 xl, .int .i64 xN, .int .i64 xm, .slice p q r, .int .i64 xa] 85)) p q r ((H.out.kept q4).kept hga) hkx
     simp only [expCells] at hcall
     obtain ⟨y, hy⟩ : ∃ y, y = Ty.of (stOf N V) (.mk xf xs xn xk xl xN xm xks xa) := ⟨_, rfl⟩
     rw [← hy] at hcall
     unfold Ty.kid1 at hnx
     rw [← hy] at hnx
     obtain ⟨yt, y1, y2⟩ := y
     simp only [Gram.Exp.at_] at hnx
     have HQ2 := ld (And.intro q1 (And.intro q2 (And.intro q3 (And.intro q4 hrb))))
     have HX := ld (And.intro hx (And.intro hnx hK))
     have HKB := ld (And.intro hga hkb)
     have hfd := tfound_any y1 y2
     have hsr := (gl hrb)
     have hsw := q4.size
     clear HQ q1 q2 q3 q4 hx hnx hK hxk hcs hkx hsx hfx hgr hga hkb hy hrb
     unfold ofPost at hcall
     by_cases h0 : y2 = 0
     ·have hb : (y2 != 0) = false := by simp [h0]
      rw [hb] at hfd
      have H0 := ld h0
      clear h0 hb
      by_cases h1 : yt.length = 1
      ·have H1 := ld h1
       clear h1
       go_wp2_with (go_at_call 122; refine hcall.mono ?_; rintro e w4 ⟨ya, yn, yk, rfl, hg4, hf4⟩; refine Hid.out ?_)
       refine ld ?_
       go_wp2_with (go_at_call 17; refine (hfd _).mono ?_; rintro e w5 ⟨rfl, hg5⟩; refine Hid.out ?_)
       obtain ⟨hyn, hyl, hyt, hyw⟩ := hf4 H0.out
       have hg45 : w4.grownBy w5 none := (ga w4 _ none).trans hg5
       have hGw : wr.grownBy w5 none := HKB.out.1.trans (hg4.trans hg45)
       have h1 := hyn.trans H1.out
       subst h1
       obtain ⟨z, hz⟩ : ∃ z, yt = [z] := by
        match yt, hyn with
        | [z], _ => exact ⟨z, rfl⟩
       subst hz
       obtain ⟨gz, oz, rfl, z0, z1⟩ := (hyt.kept hg45).at0
       obtain ⟨a2, c2, w6, r2, o2, g2⟩ := growT w5 117 w.heap.size (.slice a' t c') t K z.1 z.2 (HQ2.out.1.kept hGw (Classical.em _)) (Nat.le_trans hsw hGw.size) (by omega)
       have hlo := (HQ2.out.1.kept hGw (Classical.em _)).lt
       have hnx := HX.out.2.1
       rw [if_neg (by simp [H0.out]), if_neg (by simp)] at hnx
       have HF := ld (show w6.ownsRow w.heap.size 57 2 (.slice a2 (t + 1) c2) (t + 1) (tyR (Ty.ofK (stOf N V) (l.take (t + 1))).1) ∧ (Ty.ofK (stOf N V) (l.take (t + 1))).2.2 = 0 ∧ (∀ x ∈ (Ty.ofK (stOf N V) (l.take (t + 1))).1, wfT x) ∧ w.grownBy w6 none ∧ w6.heap[w.heap.size + 1 + 1]? = some (.cells #[.int .i64 0, .int .i64 0] 46 (0, 0)) from by
        rw [hnx]
        refine ⟨o2, rfl, fun x hx => ?_, (HQ2.out.2.2.2.1.trans hGw).andThen g2 (fun j e => .inl (hlo j e).1), ?_⟩
        ·simp only [List.mem_append, List.mem_singleton] at hx
         rcases hx with hx | hx
         ·exact HQ2.out.2.2.1 x hx
         ·rw [hx]; exact hyw z (by simp)
        ·have hrb5 := (hGw.block _ (gl HQ2.out.2.2.2.2) (by simp)).trans HQ2.out.2.2.2.2
         refine (g2.block _ (gl hrb5) (fun e => ?_)).trans hrb5
         obtain ⟨cs9, h9⟩ := rowAt (HQ2.out.1.kept hGw (Classical.em _)) e.symm
         rw [h9] at hrb5
         simp at hrb5)
       have HR2 := ld r2
       generalize z.1 = zk at *
       generalize z.2 = zl at *
       clear r2 o2 g2 hlo hnx hyt hyw hyn hyl hg45 hGw hg4 hg5 hf4 hcall HQ2 HX HKB
       refine ld ?_
       go_wp2_with (at_builtin; refine wpList_ap HR2.out _ _ rfl rfl rfl rfl ?_)
       go_roundw
       case rel => exact ⟨t + 1, a2, c2, by omega, by go_num, rfl, HF⟩
       case measure => simp [intOf]; omega
      ·have hnx := HX.out.2.1
       rw [if_neg (by simp [H0.out]), if_pos h1] at hnx
       have hfin := Ty.ofK_bad (stOf N V) l (t + 1) (by rw [hnx]; show (23 : Int) ≠ 0; decide)
       rw [hnx] at hfin
       rw [hfin]
       have H1 := ld h1
       clear h1 hnx hfin
       go_wp2_with (go_at_call 122; refine hcall.mono ?_; rintro e w4 ⟨ya, yn, yk, rfl, hg4, hf4⟩; refine Hid.out ?_)
       refine ld ?_
       go_wp2_with (go_at_call 17; refine (hfd _).mono ?_; rintro e w5 ⟨rfl, hg5⟩; refine Hid.out ?_)
       obtain ⟨hyn, hyl, hyt, hyw⟩ := hf4 H0.out
       have hg45 : w4.grownBy w5 none := (ga w4 _ none).trans hg5
       have hGw : wr.grownBy w5 none := HKB.out.1.trans (hg4.trans hg45)
       have hrb := (hGw.block _ (gl HQ2.out.2.2.2.2) (by simp)).trans HQ2.out.2.2.2.2
       have k8 := cell_of_row _ _ 8 _ _ _ (((hg4.trans hg45).block _ (gl HKB.out.2) (by simp)).trans HKB.out.2)
       have HG5 := ld (HQ2.out.2.2.2.1.trans hGw)
       have hb1 : ((yn : Int) != 1) = true := by have := H1.out; simp; omega
       clear hcall hf4 hyt hyw hyn hyl hg45 hGw hg4 hg5 HX HKB HQ2
       refine ld ?_
       go_wp2
       refine wp_region_L (S := fun V => (w5).grownBy V (some (w.heap.size + 1 + 1))) (Z := []) (by kernel_rfl) ?_
       have hS := gdrew (World.grownBy.refl (w5) (some (w.heap.size + 1 + 1)))
       refine Wl.t1 0 48 (.pointer (some ⟨wr.heap.size, 8, none⟩)) hS ?_
       (try simp only [Act.put, Wl.sA, Wl.sB, Wl.sC])
       refine Wl.t2 1 49 (.int .i64 xa) (fun w' hw' => ?_) hS ?_
       ·have hc0 := hw'.cell k8 (by simp; omega); clear hw'; go_simp
       (try simp only [Act.put, Wl.sA, Wl.sB, Wl.sC])
       refine Wl.t1 2 50 (.agg #[.int .i64 xa, .int .i64 23]) hS ?_
       (try simp only [Act.put, Wl.sA, Wl.sB, Wl.sC])
       refine Wl.t1 3 6 ((.slice none 0 0)) hS ?_
       (try simp only [Act.put, Wl.sA, Wl.sB, Wl.sC])
       have hrbd : (w5).drew.heap[w.heap.size + 1 + 1]? = some (.cells #[.int .i64 0, .int .i64 0] 46 (0, 0)) := hrb
       have hst := rowSet (cs := #[.int .i64 xa, .int .i64 23]) hrbd
       refine Wl.sk 4 ((w5).drew.setRow (w.heap.size + 1 + 1) #[.int .i64 xa, .int .i64 23]) (run_storeF _ _ rfl rfl rfl hrbd) (hS.trans hst.2) ?_
       (try simp only [Act.put, Wl.sA, Wl.sB, Wl.sC])
       refine wpL_done (by kernel_rfl) ?_ _
       obtain ⟨w7, hw7⟩ : ∃ w7, w7 = (w5).drew.setRow (w.heap.size + 1 + 1) #[.int .i64 xa, .int .i64 23] := ⟨_, rfl⟩
       rw [← hw7] at hst ⊢
       have hg7 := hS.trans hst.2
       have hh7 := hst.1
       clear hst hS hw7
       go_wp2
       (try simp only [Exit.inBlock, Exit.then])
       refine bodyPost_ret (results_tmp_cell rfl _ _ (w.heap.size + 1 + 1) 46 _ (0, 0) _ (.slice none 0 0) rfl rfl hh7 Tryz.underlying46 rfl (by kernel_rfl)) rfl ?_
       exact ⟨_, _, _, rfl, HG5.out.andThen hg7 (fun j e => .inl (by cases e; omega)), fun e => by cases e⟩
     ·have hb : (y2 != 0) = true := by simp [h0]
      rw [hb] at hfd
      have hnx := HX.out.2.1
      rw [if_pos h0] at hnx
      have hfin := Ty.ofK_bad (stOf N V) l (t + 1) (by rw [hnx]; exact h0)
      rw [hnx] at hfin
      rw [hfin]
      have H0 := ld h0
      clear h0 hb hnx hfin
      go_wp2_with (go_at_call 122; refine hcall.mono ?_; rintro e w4 ⟨ya, yn, yk, rfl, hg4, hf4⟩; refine Hid.out ?_)
      refine ld ?_
      go_wp2_with (go_at_call 17; refine (hfd _).mono ?_; rintro e w5 ⟨rfl, hg5⟩; refine Hid.out ?_)
      have hg45 : w4.grownBy w5 none := (ga w4 _ none).trans hg5
      have hGw : wr.grownBy w5 none := HKB.out.1.trans (hg4.trans hg45)
      have hrb := (hGw.block _ (gl HQ2.out.2.2.2.2) (by simp)).trans HQ2.out.2.2.2.2
      have hfb := (hg5.block _ (by simp) (by simp)).trans (heap_alloc_new w4 (.cells #[.int .i64 y1, .int .i64 y2] 46 (0, 0)))
      have k0 := cell_of_row _ _ 0 _ _ _ hfb
      have k1 := cell_of_row _ _ 1 _ _ _ hfb
      have hs4 := (HKB.out.1.trans hg4).size
      have HG5 := ld (HQ2.out.2.2.2.1.trans hGw)
      clear hcall hf4 hg45 hGw hg4 hg5 HX HKB HQ2 hfb
      refine ld ?_
      go_wp2
      refine wp_region_L (S := fun V => (w5).grownBy V (some (w.heap.size + 1 + 1))) (Z := []) (by kernel_rfl) ?_
      have hS := gdrew (World.grownBy.refl (w5) (some (w.heap.size + 1 + 1)))
      refine Wl.t2 0 44 (.agg #[.int .i64 y1, .int .i64 y2]) (fun w' hw' => ?_) hS ?_
      ·have hc0 := hw'.cell k0 (by simp; omega); have hc1 := hw'.cell k1 (by simp; omega); clear hw'; go_simp
      (try simp only [Act.put, Wl.sA, Wl.sB, Wl.sC])
      refine Wl.t1 1 6 ((.slice none 0 0)) hS ?_
      (try simp only [Act.put, Wl.sA, Wl.sB, Wl.sC])
      have hrbd : (w5).drew.heap[w.heap.size + 1 + 1]? = some (.cells #[.int .i64 0, .int .i64 0] 46 (0, 0)) := hrb
      have hst := rowSet (cs := #[.int .i64 y1, .int .i64 y2]) hrbd
      refine Wl.sk 2 ((w5).drew.setRow (w.heap.size + 1 + 1) #[.int .i64 y1, .int .i64 y2]) (run_storeF _ _ rfl rfl rfl hrbd) (hS.trans hst.2) ?_
      (try simp only [Act.put, Wl.sA, Wl.sB, Wl.sC])
      refine wpL_done (by kernel_rfl) ?_ _
      obtain ⟨w7, hw7⟩ : ∃ w7, w7 = (w5).drew.setRow (w.heap.size + 1 + 1) #[.int .i64 y1, .int .i64 y2] := ⟨_, rfl⟩
      rw [← hw7] at hst ⊢
      have hg7 := hS.trans hst.2
      have hh7 := hst.1
      clear hst hS hw7
      go_wp2
      (try simp only [Exit.inBlock, Exit.then])
      refine bodyPost_ret (results_tmp_cell rfl _ _ (w.heap.size + 1 + 1) 46 _ (0, 0) _ (.slice none 0 0) rfl rfl hh7 Tryz.underlying46 rfl (by kernel_rfl)) rfl ?_
      exact ⟨_, _, _, rfl, HG5.out.andThen hg7 (fun j e => .inl (by cases e; omega)), fun e => absurd e H0.out⟩
    ·have e : t = mm := by omega
     subst e
     have HQ2 := ld (And.intro q1 (And.intro q2 (And.intro q3 q4)))
     have HKe := ld hK
     clear q1 q2 q3 q4 HQ hK
     go_wp2_with (with_reducible refine hold_st 7 ?_)
     refine ld ?_
     refine sg hrb ?_
     intro w7 hh7 hg7
     go_wp2
     (try simp only [Exit.inBlock, Exit.then])
     refine bodyPost_ret (results_tmp_cell rfl _ _ (w.heap.size + 1 + 1) 46 _ (0, 0) _ (.slice a' t c') rfl rfl hh7 Tryz.underlying46 rfl (by kernel_rfl)) rfl ?_
     have hlt9 : l.take t = l := List.take_of_length_le (by rw [HLL.out]; exact Nat.le_refl _)
     have hkk := HKe.out
     have hz := Ty.ofK_zero (stOf N V) _ HQ2.out.2.1
     rw [hlt9] at hkk hz
     refine ⟨a', t, c', by rw [hz], HQ2.out.2.2.2.andThen hg7 (fun j e => .inl (by cases e; omega)), fun _ => ⟨?_, by omega, ?_, ?_⟩⟩
     ·have := Ty.ofK_full (stOf N V) l (by rw [hz])
      rw [this, HLL.out]
     ·rw [← hkk]
      refine HQ2.out.1.kept hg7 (.inr fun e => ?_)
      obtain ⟨cs9, h9⟩ := rowAt HQ2.out.1 e
      rw [h9] at hrb
      simp at hrb
     ·rw [← hkk]; exact HQ2.out.2.2.1
open Go.RowKit Go.Maps Go.WideMaps
namespace Ty
def mmOf (f : Int) (n : Nat) : Nat := if f = 13 ∨ f = 14 ∨ f = 15 ∨ f = 18 then n else min n (least f)
def kidsR (st : St) (f : Int) (ks : List Gram.Exp) (at_ : Int) : List T × Nam.F := if ks.length < least f then ([], (at_, 23)) else ofK st (ks.take (mmOf f ks.length))
theorem of_eq (st : St) (f s : Int) (nm : Gram.B) (tk tl n m : Int) (ks : List Gram.Exp) (a : Int) : of st (.mk f s nm tk tl n m ks a) = if (kidsR st f ks a).2.2 ≠ 0 then ([], (kidsR st f ks a).2) else if (part st f s nm (tk, tl) n m (kidsR st f ks a).1).2 ≠ 0 then ([], (a, (part st f s nm (tk, tl) n m (kidsR st f ks a).1).2)) else ((part st f s nm (tk, tl) n m (kidsR st f ks a).1).1, (0, 0)) := by
 unfold of kidsR
 by_cases h : ks.length < least f
 ·rw [if_pos h, if_pos h]
  simp
 ·rw [if_neg h, if_neg h]
  have e : ofL st (most f ks.length) ks = ofK st (ks.take (mmOf f ks.length)) := by
   rw [ofL_take]
   unfold most mmOf
   by_cases hf : f = 13 ∨ f = 14 ∨ f = 15 ∨ f = 18
   ·rw [if_pos hf, if_pos hf]
   ·rw [if_neg hf, if_neg hf, show min ks.length (least f) = least f by omega]
  simp only [e]
theorem kidsR_len (st : St) (f : Int) (ks : List Gram.Exp) (a : Int) (h : (kidsR st f ks a).2.2 = 0) : least f ≤ (kidsR st f ks a).1.length := by
 unfold kidsR at h ⊢
 by_cases h1 : ks.length < least f
 ·rw [if_pos h1] at h; simp at h
 ·rw [if_neg h1] at h ⊢
  rw [ofK_full st _ h, List.length_take]
  unfold mmOf
  split <;> omega
end Ty
theorem kidLtT {ks : List Gram.Exp} {t : Nat} {k : Gram.Exp} (h : ks[t]? = some k) {f s : Int} {nm : List UInt8} {tk tl n m a : Int} : SizeOf.sizeOf k < SizeOf.sizeOf (Gram.Exp.mk f s nm tk tl n m ks a) := by
 have h1 := List.sizeOf_lt_of_mem (List.mem_of_getElem? h)
 simp only [Gram.Exp.mk.sizeOf_spec]
 omega
theorem ruleEnters (f : Int) (args : Array Value) (w : World) : (callFunc (ruleF f) args).run Tryz.prog w = .ok (.enter (ruleF f) args) w := by
 unfold ruleF
 by_cases h1 : f = 1
 ·rw [if_pos h1]; exact enters_of Tryz.func42 (by kernel_rfl) rfl args w
 rw [if_neg h1]
 by_cases h2 : f = 2
 ·rw [if_pos h2]; exact enters_of Tryz.func43 (by kernel_rfl) rfl args w
 rw [if_neg h2]
 by_cases h3 : f = 3
 ·rw [if_pos h3]; exact enters_of Tryz.func44 (by kernel_rfl) rfl args w
 rw [if_neg h3]
 by_cases h4 : f = 4
 ·rw [if_pos h4]; exact enters_of Tryz.func45 (by kernel_rfl) rfl args w
 rw [if_neg h4]
 by_cases h5 : f = 5
 ·rw [if_pos h5]; exact enters_of Tryz.func46 (by kernel_rfl) rfl args w
 rw [if_neg h5]
 by_cases h6 : f = 6
 ·rw [if_pos h6]; exact enters_of Tryz.func47 (by kernel_rfl) rfl args w
 rw [if_neg h6]
 by_cases h7 : f = 7
 ·rw [if_pos h7]; exact enters_of Tryz.func47 (by kernel_rfl) rfl args w
 rw [if_neg h7]
 by_cases h8 : f = 8
 ·rw [if_pos h8]; exact enters_of Tryz.func47 (by kernel_rfl) rfl args w
 rw [if_neg h8]
 by_cases h9 : f = 9
 ·rw [if_pos h9]; exact enters_of Tryz.func48 (by kernel_rfl) rfl args w
 rw [if_neg h9]
 by_cases h10 : f = 10
 ·rw [if_pos h10]; exact enters_of Tryz.func48 (by kernel_rfl) rfl args w
 rw [if_neg h10]
 by_cases h11 : f = 11
 ·rw [if_pos h11]; exact enters_of Tryz.func49 (by kernel_rfl) rfl args w
 rw [if_neg h11]
 by_cases h12 : f = 12
 ·rw [if_pos h12]; exact enters_of Tryz.func50 (by kernel_rfl) rfl args w
 rw [if_neg h12]
 by_cases h13 : f = 13
 ·rw [if_pos h13]; exact enters_of Tryz.func51 (by kernel_rfl) rfl args w
 rw [if_neg h13]
 by_cases h14 : f = 14
 ·rw [if_pos h14]; exact enters_of Tryz.func52 (by kernel_rfl) rfl args w
 rw [if_neg h14]
 by_cases h15 : f = 15
 ·rw [if_pos h15]; exact enters_of Tryz.func53 (by kernel_rfl) rfl args w
 rw [if_neg h15]
 by_cases h16 : f = 16
 ·rw [if_pos h16]; exact enters_of Tryz.func54 (by kernel_rfl) rfl args w
 rw [if_neg h16]
 by_cases h17 : f = 17
 ·rw [if_pos h17]; exact enters_of Tryz.func55 (by kernel_rfl) rfl args w
 rw [if_neg h17]
 by_cases h18 : f = 18
 ·rw [if_pos h18]; exact enters_of Tryz.func56 (by kernel_rfl) rfl args w
 rw [if_neg h18]
 by_cases h19 : f = 19
 ·rw [if_pos h19]; exact enters_of Tryz.func57 (by kernel_rfl) rfl args w
 rw [if_neg h19]
 exact enters_of Tryz.func41 (by kernel_rfl) rfl args w
theorem rowCap {w : World} {B n : Nat} {e : TypeId} {sz : Nat} {a : Option Addr} {k : Nat} {xs : List Value} (h : w.ownsRow B e sz (.slice a n k) n xs) : n ≤ k := by
 rcases h.2 with ⟨h0, h1⟩ | ⟨g, cap, cur, h0, _, _, h2, _⟩
 ·cases h0; exact Nat.le_refl _
 ·cases h0; exact h2
theorem tof_step {w0 : World} {A : Aa} {N : List (List UInt8 × (Gram.Node × Nv))} {V : List (List UInt8 × Ty.T)} {cnt : Nat} (sz : Nat) (hof : COf w0 A N V cnt sz) : COf w0 A N V cnt (sz + 1) := by
 intro x hx hfx w ka kn kc h hk
 cases x with
 | mk f s nm tk tl n m ks at_ =>
 simp only [Gram.Exp.kids] at hk
 simp only [expCells]
 simp only [Ty.fineE, Bool.and_eq_true, decide_eq_true_eq] at hfx
 obtain ⟨⟨⟨⟨⟨⟨hsh, hwk⟩, hwl⟩, hl0⟩, hwn⟩, hkl⟩, hfl⟩ := hfx
 rw [Ty.of_eq]
 have hg2 : w.grownBy ((w.alloc (.cells #[.int .i64 f, .int .i64 s, .string ⟨nm.toArray⟩, .int .i64 tk, .int .i64 tl, .int .i64 n, .int .i64 m, .slice ka kn kc, .int .i64 at_] 85)).alloc fau0) none := galloc2 w _ _
 have c0 : ∀ j u, (#[.int .i64 f, .int .i64 s, .string ⟨nm.toArray⟩, .int .i64 tk, .int .i64 tl, .int .i64 n, .int .i64 m, .slice ka kn kc, .int .i64 at_])[j]? = some u → ((w.alloc (.cells #[.int .i64 f, .int .i64 s, .string ⟨nm.toArray⟩, .int .i64 tk, .int .i64 tl, .int .i64 n, .int .i64 m, .slice ka kn kc, .int .i64 at_] 85)).alloc fau0).cell? ⟨w.heap.size, j, none⟩ = some u := fun j u hu => (ga _ _ none).cell ((cell_of_row _ _ j _ _ _ (heap_alloc_new w (.cells #[.int .i64 f, .int .i64 s, .string ⟨nm.toArray⟩, .int .i64 tk, .int .i64 tl, .int .i64 n, .int .i64 m, .slice ka kn kc, .int .i64 at_] 85 (0, 0)))).trans hu) (by simp)
 have hrb0 : ((w.alloc (.cells #[.int .i64 f, .int .i64 s, .string ⟨nm.toArray⟩, .int .i64 tk, .int .i64 tl, .int .i64 n, .int .i64 m, .slice ka kn kc, .int .i64 at_] 85)).alloc fau0).heap[w.heap.size + 1]? = some (.cells #[.int .i64 0, .int .i64 0] 46 (0, 0)) := heap_alloc_2 w _ _
 have hru := truleOf (h.kept hg2) f
 obtain ⟨hL, _⟩ := kidsLen hk
 have hcap := kidsCap hk
 have hmm : (mostI f = (Ty.mmOf f ks.length : Int) ∧ Ty.mmOf f ks.length < kn) ∨ ((kn : Int) ≤ mostI f ∧ Ty.mmOf f ks.length = kn) := by
  unfold mostI Ty.mmOf
  by_cases hf : f = 13 ∨ f = 14 ∨ f = 15 ∨ f = 18
  ·rw [if_pos hf, if_pos hf]; exact .inr ⟨by unfold many; omega, hL.symm⟩
  ·rw [if_neg hf, if_neg hf]
   by_cases hlt : Ty.least f < kn
   ·exact .inl ⟨by congr 1; omega, by omega⟩
   ·exact .inr ⟨by omega, by omega⟩
 have hki : ∀ W, w.grownBy W none → Calls Tryz.prog 160 #[.pointer (some ⟨A.c, 0, none⟩), .agg #[.int .i64 f, .int .i64 s, .string ⟨nm.toArray⟩, .int .i64 tk, .int .i64 tl, .int .i64 n, .int .i64 m, .slice ka kn kc, .int .i64 at_], .agg #[.int .i64 (Ty.least f : Int), .int .i64 (mostI f), .func (.func (ruleF f)) #[] #[]]] W (kPost W (Ty.kidsR (stOf N V) f ks at_)) := fun W hW =>
  tkids (h.kept hW) f s nm tk tl n m ks at_ ka kn kc hk hfl hkl sz hof (fun t k hkt => by have := kidLtT hkt (f := f) (s := s) (nm := nm) (tk := tk) (tl := tl) (n := n) (m := m) (a := at_); omega) (Ty.least f) (mostI f) (ruleF f) (Ty.mmOf f ks.length) hmm
 have hlen := Ty.kidsR_len (stOf N V) f ks at_
 obtain ⟨R, hR⟩ : ∃ R, R = Ty.kidsR (stOf N V) f ks at_ := ⟨_, rfl⟩
 rw [← hR] at hki hlen ⊢
 obtain ⟨kts, y1, y2⟩ := R
 have hAlt := h.lt
 have hbs := h.base.size
 have H := ld h
 have HKI := ld hki
 have HG2 := ld (And.intro hg2 hrb0)
 have e0 := c0 0 _ rfl
 have e1 := c0 1 _ rfl
 have e2 := c0 2 _ rfl
 have e3 := c0 3 _ rfl
 have e4 := c0 4 _ rfl
 have e5 := c0 5 _ rfl
 have e6 := c0 6 _ rfl
 have e7 := c0 7 _ rfl
 have e8 := c0 8 _ rfl
 have HE := ld (And.intro e0 (And.intro e1 (And.intro e2 (And.intro e3 (And.intro e4 (And.intro e5 (And.intro e6 (And.intro e7 e8))))))))
 have HWF := ld (And.intro hsh (And.intro hwk (And.intro hwl (And.intro hl0 hwn))))
 have HLN := ld hlen
 clear hki hlen hg2 hrb0 c0 hk hmm hL hcap hx hfl hkl hsh hwk hwl hl0 hwn hR h hof
 unfold fau0 at *
 have hfd := tfound_any y1 y2
 by_cases h0 : y2 = 0
 ·have hb : (y2 != 0) = false := by simp [h0]
  rw [hb] at hfd
  rw [if_neg (by simp [h0])]
  have H0 := ld h0
  obtain ⟨P, hP⟩ : ∃ P, P = Ty.part (stOf N V) f s nm (tk, tl) n m kts := ⟨_, rfl⟩
  rw [← hP]
  have HP := ld hP
  clear h0 hb hP
  by_cases hp0 : P.2 = 0
  ·rw [if_neg (by simp [hp0])]
   have HP0 := ld hp0
   clear hp0
   go_enter Tryz.func122, Tryz.ntmps122
   go_wp2_with (go_at_call 159; refine hru.mono ?_; rintro e w1 ⟨rfl, hg1⟩; refine Hid.out ?_)
   have hga := ga w1 (.cells #[.int .i64 (Ty.least f : Int), .int .i64 (mostI f), .func (.func (ruleF f)) #[] #[]] 101 (0, 0)) none
   have hrr := heap_alloc_new w1 (.cells #[.int .i64 (Ty.least f : Int), .int .i64 (mostI f), .func (.func (ruleF f)) #[] #[]] 101 (0, 0))
   have hgW := hg1.trans hga
   have hcall := HKI.out _ (HG2.out.1.trans hgW)
   have r0 := cell_of_row _ _ 0 _ _ _ hrr
   have r1 := cell_of_row _ _ 1 _ _ _ hrr
   have r2 := cell_of_row _ _ 2 _ _ _ hrr
   have v0 := hgW.cell HE.out.1 (by simp)
   have v1 := hgW.cell HE.out.2.1 (by simp)
   have v2 := hgW.cell HE.out.2.2.1 (by simp)
   have v3 := hgW.cell HE.out.2.2.2.1 (by simp)
   have v4 := hgW.cell HE.out.2.2.2.2.1 (by simp)
   have v5 := hgW.cell HE.out.2.2.2.2.2.1 (by simp)
   have v6 := hgW.cell HE.out.2.2.2.2.2.2.1 (by simp)
   have v7 := hgW.cell HE.out.2.2.2.2.2.2.2.1 (by simp)
   have v8 := hgW.cell HE.out.2.2.2.2.2.2.2.2 (by simp)
   have hs1 := hg1.size
   simp only [World.size_alloc] at hs1
   have HGW := ld (And.intro hgW hrr)
   clear hru hg1 hga hrr hgW e0 e1 e2 e3 e4 e5 e6 e7 e8
   unfold kPost at hcall
   refine ld ?_
   go_wp2_with (go_at_call 160; refine hcall.mono ?_; rintro e w3 ⟨ya, yn, yk, rfl, hg3, hf3⟩; refine Hid.out ?_)
   refine ld ?_
   go_wp2_with (go_at_call 17; refine (hfd _).mono ?_; rintro e w4 ⟨rfl, hg4⟩; refine Hid.out ?_)
   obtain ⟨hyn, hyl, hyo, hyw⟩ := hf3 H0.out
   have hg34 : w3.grownBy w4 none := (ga w3 _ none).trans hg4
   have hgA : (w1.alloc (.cells #[.int .i64 (Ty.least f : Int), .int .i64 (mostI f), .func (.func (ruleF f)) #[] #[]] 101 (0, 0))).grownBy w4 none := hg3.trans hg34
   have hgB := HG2.out.1.trans (HGW.out.1.trans hgA)
   obtain ⟨p, hp⟩ : ∃ p : Pv, p = ⟨A.c, f, s, nm, tk, tl, n, m, .slice ka kn kc, at_, ya, yn, yk⟩ := ⟨_, rfl⟩
   have hgp := ga w4 (.cells #[.pointer (some ⟨A.c, 0, none⟩), .int .i64 f, .int .i64 s, .string ⟨nm.toArray⟩, .int .i64 tk, .int .i64 tl, .int .i64 n, .int .i64 m, .slice ka kn kc, .int .i64 at_, .slice ya yn yk, .int .i64 0] 119 (0, 0)) none
   have hpt : Pt (w4.alloc (.cells #[.pointer (some ⟨A.c, 0, none⟩), .int .i64 f, .int .i64 s, .string ⟨nm.toArray⟩, .int .i64 tk, .int .i64 tl, .int .i64 n, .int .i64 m, .slice ka kn kc, .int .i64 at_, .slice ya yn yk, .int .i64 0] 119)) w4.heap.size p 0 := by rw [hp]; exact heap_alloc_new w4 _
   have hyo4 := (hyo.kept hg34 (Classical.em _)).kept hgp (Classical.em _)
   have hPc : Pc w0 (w4.alloc (.cells #[.pointer (some ⟨A.c, 0, none⟩), .int .i64 f, .int .i64 s, .string ⟨nm.toArray⟩, .int .i64 tk, .int .i64 tl, .int .i64 n, .int .i64 m, .slice ka kn kc, .int .i64 at_, .slice ya yn yk, .int .i64 0] 119)) A N V cnt w4.heap.size p kts 0 := by
    have hls := hgB.size
    refine ⟨(H.out.kept hgB).kept hgp, hpt, by rw [hp], ⟨by omega, by simp; omega⟩, by rw [hp]; exact hyn, by rw [hp]; exact hyl, by rw [hp]; exact TyL.own hyo4, ?_, hyw, by rw [hp]; exact rowCap hyo, by rw [hp]; exact HWF.out.1⟩
    intro g off e e2
    rw [hp] at e
    simp only at e
    subst e e2
    have := (hyo.kept hg34 (Classical.em _)).lt w4.heap.size rfl
    omega
   obtain ⟨ts, c, hrule, hc1, hc2⟩ := rule_all w0 _ A N V cnt w4.heap.size p kts hPc (by rw [hp]; exact ⟨HWF.out.2.1, HWF.out.2.2.1, HWF.out.2.2.2.1⟩) (by rw [hp]; exact HWF.out.2.2.2.2) (by rw [hp]; exact HLN.out H0.out)
   have hc1' : P.2 = c := by rw [HP.out]; rw [hp] at hc1; exact hc1
   have hc2' : c = 0 → P.1 = ts := by rw [HP.out]; rw [hp] at hc2; exact hc2
   have hrF : ruleF p.f = ruleF f := by rw [hp]
   rw [hrF] at hrule
   have hen : ∀ args w, (callFunc (ruleF f) args).run Tryz.prog w = .ok (.enter (ruleF f) args) w := ruleEnters f
   have q0 := hgA.cell r0 (by simp)
   have q1 := hgA.cell r1 (by simp)
   have q2 := hgA.cell r2 (by simp)
   have x0 := hgA.cell v0 (by simp)
   have x1 := hgA.cell v1 (by simp)
   have x2 := hgA.cell v2 (by simp)
   have x3 := hgA.cell v3 (by simp)
   have x4 := hgA.cell v4 (by simp)
   have x5 := hgA.cell v5 (by simp)
   have x6 := hgA.cell v6 (by simp)
   have x7 := hgA.cell v7 (by simp)
   have x8 := hgA.cell v8 (by simp)
   have hrb4 := ((HGW.out.1.trans hgA).block _ (gl HG2.out.2) (by simp)).trans HG2.out.2
   have HB := ld (And.intro hgB (And.intro hgp hrb4))
   have HC := ld (And.intro hc1' hc2')
   have hs4 := hgB.size
   have hs5 := hgA.size
   simp only [World.size_alloc] at hs5
   have z2 := hgp.cell q2 (by simp)
   have z8 := hgp.cell x8 (by simp)
   clear hc1 hc2 hc1' hc2' hPc hpt hyo4 hgp hyn hyl hyo hyw hg34 hgA hgB hf3 hg3 hg4 hcall hrF r0 r1 r2 v0 v1 v2 v3 v4 v5 v6 v7 v8 hrb4 hp
   refine ld ?_
   go_wp2
   refine hrule.mono ?_
   rintro e w6 ⟨ta, tn, tk9, rfl, hp6, hg6, hf6⟩
   have p11 := hp6.c11
   have e8 := hg6.cell z8 (by simp; omega)
   have hrb := (hg6.block _ (by have := gl HB.out.2.2; simp; omega) (by simp; omega)).trans ((HB.out.2.1.block _ (gl HB.out.2.2) (by simp)).trans HB.out.2.2)
   have hG6 : w.grownBy w6 none := (HB.out.1.trans HB.out.2.1).andThen hg6 (fun j e => .inl (by cases e; exact hs4))
   have hc0 : c = 0 := HC.out.1.symm.trans HP0.out
   have hb : (c != 0) = false := by simp [hc0]
   have HF := ld (And.intro (hf6 hc0) (And.intro (HC.out.2 hc0) hG6))
   clear hf6 hG6 hp6 hg6 hc0 hrule
   go_wp2_with (with_reducible refine hold_st 5 ?_)
   refine ld ?_
   refine sg hrb ?_
   intro w7 hh7 hg7
   go_wp2
   (try simp only [Exit.inBlock, Exit.then])
   refine bodyPost_ret (results_tmp_cell rfl _ _ (w.heap.size + 1) 46 _ (0, 0) _ (.slice ta tn tk9) rfl rfl hh7 Tryz.underlying46 rfl (by kernel_rfl)) rfl ?_
   obtain ⟨⟨f1, f2, f3, f4⟩, f5, f6⟩ := HF.out
   refine ⟨ta, tn, tk9, rfl, f6.andThen hg7 (fun j e => .inl (by cases e; omega)), fun _ => ?_⟩
   rw [f5]
   refine ⟨f1, f2, f3.keptB hg7 (fun g off e e2 => ?_), f4.1⟩
   obtain ⟨cs9, h9⟩ := f4.2 g off e
   rw [e2, hrb] at h9
   simp at h9
  ·rw [if_pos hp0]
   have HP0 := ld hp0
   clear hp0
   go_enter Tryz.func122, Tryz.ntmps122
   go_wp2_with (go_at_call 159; refine hru.mono ?_; rintro e w1 ⟨rfl, hg1⟩; refine Hid.out ?_)
   have hga := ga w1 (.cells #[.int .i64 (Ty.least f : Int), .int .i64 (mostI f), .func (.func (ruleF f)) #[] #[]] 101 (0, 0)) none
   have hrr := heap_alloc_new w1 (.cells #[.int .i64 (Ty.least f : Int), .int .i64 (mostI f), .func (.func (ruleF f)) #[] #[]] 101 (0, 0))
   have hgW := hg1.trans hga
   have hcall := HKI.out _ (HG2.out.1.trans hgW)
   have r0 := cell_of_row _ _ 0 _ _ _ hrr
   have r1 := cell_of_row _ _ 1 _ _ _ hrr
   have r2 := cell_of_row _ _ 2 _ _ _ hrr
   have v0 := hgW.cell HE.out.1 (by simp)
   have v1 := hgW.cell HE.out.2.1 (by simp)
   have v2 := hgW.cell HE.out.2.2.1 (by simp)
   have v3 := hgW.cell HE.out.2.2.2.1 (by simp)
   have v4 := hgW.cell HE.out.2.2.2.2.1 (by simp)
   have v5 := hgW.cell HE.out.2.2.2.2.2.1 (by simp)
   have v6 := hgW.cell HE.out.2.2.2.2.2.2.1 (by simp)
   have v7 := hgW.cell HE.out.2.2.2.2.2.2.2.1 (by simp)
   have v8 := hgW.cell HE.out.2.2.2.2.2.2.2.2 (by simp)
   have hs1 := hg1.size
   simp only [World.size_alloc] at hs1
   have HGW := ld (And.intro hgW hrr)
   clear hru hg1 hga hrr hgW e0 e1 e2 e3 e4 e5 e6 e7 e8
   unfold kPost at hcall
   refine ld ?_
   go_wp2_with (go_at_call 160; refine hcall.mono ?_; rintro e w3 ⟨ya, yn, yk, rfl, hg3, hf3⟩; refine Hid.out ?_)
   refine ld ?_
   go_wp2_with (go_at_call 17; refine (hfd _).mono ?_; rintro e w4 ⟨rfl, hg4⟩; refine Hid.out ?_)
   obtain ⟨hyn, hyl, hyo, hyw⟩ := hf3 H0.out
   have hg34 : w3.grownBy w4 none := (ga w3 _ none).trans hg4
   have hgA : (w1.alloc (.cells #[.int .i64 (Ty.least f : Int), .int .i64 (mostI f), .func (.func (ruleF f)) #[] #[]] 101 (0, 0))).grownBy w4 none := hg3.trans hg34
   have hgB := HG2.out.1.trans (HGW.out.1.trans hgA)
   obtain ⟨p, hp⟩ : ∃ p : Pv, p = ⟨A.c, f, s, nm, tk, tl, n, m, .slice ka kn kc, at_, ya, yn, yk⟩ := ⟨_, rfl⟩
   have hgp := ga w4 (.cells #[.pointer (some ⟨A.c, 0, none⟩), .int .i64 f, .int .i64 s, .string ⟨nm.toArray⟩, .int .i64 tk, .int .i64 tl, .int .i64 n, .int .i64 m, .slice ka kn kc, .int .i64 at_, .slice ya yn yk, .int .i64 0] 119 (0, 0)) none
   have hpt : Pt (w4.alloc (.cells #[.pointer (some ⟨A.c, 0, none⟩), .int .i64 f, .int .i64 s, .string ⟨nm.toArray⟩, .int .i64 tk, .int .i64 tl, .int .i64 n, .int .i64 m, .slice ka kn kc, .int .i64 at_, .slice ya yn yk, .int .i64 0] 119)) w4.heap.size p 0 := by rw [hp]; exact heap_alloc_new w4 _
   have hyo4 := (hyo.kept hg34 (Classical.em _)).kept hgp (Classical.em _)
   have hPc : Pc w0 (w4.alloc (.cells #[.pointer (some ⟨A.c, 0, none⟩), .int .i64 f, .int .i64 s, .string ⟨nm.toArray⟩, .int .i64 tk, .int .i64 tl, .int .i64 n, .int .i64 m, .slice ka kn kc, .int .i64 at_, .slice ya yn yk, .int .i64 0] 119)) A N V cnt w4.heap.size p kts 0 := by
    have hls := hgB.size
    refine ⟨(H.out.kept hgB).kept hgp, hpt, by rw [hp], ⟨by omega, by simp; omega⟩, by rw [hp]; exact hyn, by rw [hp]; exact hyl, by rw [hp]; exact TyL.own hyo4, ?_, hyw, by rw [hp]; exact rowCap hyo, by rw [hp]; exact HWF.out.1⟩
    intro g off e e2
    rw [hp] at e
    simp only at e
    subst e e2
    have := (hyo.kept hg34 (Classical.em _)).lt w4.heap.size rfl
    omega
   obtain ⟨ts, c, hrule, hc1, hc2⟩ := rule_all w0 _ A N V cnt w4.heap.size p kts hPc (by rw [hp]; exact ⟨HWF.out.2.1, HWF.out.2.2.1, HWF.out.2.2.2.1⟩) (by rw [hp]; exact HWF.out.2.2.2.2) (by rw [hp]; exact HLN.out H0.out)
   have hc1' : P.2 = c := by rw [HP.out]; rw [hp] at hc1; exact hc1
   have hc2' : c = 0 → P.1 = ts := by rw [HP.out]; rw [hp] at hc2; exact hc2
   have hrF : ruleF p.f = ruleF f := by rw [hp]
   rw [hrF] at hrule
   have hen : ∀ args w, (callFunc (ruleF f) args).run Tryz.prog w = .ok (.enter (ruleF f) args) w := ruleEnters f
   have q0 := hgA.cell r0 (by simp)
   have q1 := hgA.cell r1 (by simp)
   have q2 := hgA.cell r2 (by simp)
   have x0 := hgA.cell v0 (by simp)
   have x1 := hgA.cell v1 (by simp)
   have x2 := hgA.cell v2 (by simp)
   have x3 := hgA.cell v3 (by simp)
   have x4 := hgA.cell v4 (by simp)
   have x5 := hgA.cell v5 (by simp)
   have x6 := hgA.cell v6 (by simp)
   have x7 := hgA.cell v7 (by simp)
   have x8 := hgA.cell v8 (by simp)
   have hrb4 := ((HGW.out.1.trans hgA).block _ (gl HG2.out.2) (by simp)).trans HG2.out.2
   have HB := ld (And.intro hgB (And.intro hgp hrb4))
   have HC := ld (And.intro hc1' hc2')
   have hs4 := hgB.size
   have hs5 := hgA.size
   simp only [World.size_alloc] at hs5
   have z2 := hgp.cell q2 (by simp)
   have z8 := hgp.cell x8 (by simp)
   clear hc1 hc2 hc1' hc2' hPc hpt hyo4 hgp hyn hyl hyo hyw hg34 hgA hgB hf3 hg3 hg4 hcall hrF r0 r1 r2 v0 v1 v2 v3 v4 v5 v6 v7 v8 hrb4 hp
   refine ld ?_
   go_wp2
   refine hrule.mono ?_
   rintro e w6 ⟨ta, tn, tk9, rfl, hp6, hg6, hf6⟩
   have p11 := hp6.c11
   have e8 := hg6.cell z8 (by simp; omega)
   have hrb := (hg6.block _ (by have := gl HB.out.2.2; simp; omega) (by simp; omega)).trans ((HB.out.2.1.block _ (gl HB.out.2.2) (by simp)).trans HB.out.2.2)
   have hG6 : w.grownBy w6 none := (HB.out.1.trans HB.out.2.1).andThen hg6 (fun j e => .inl (by cases e; exact hs4))
   have hc0 : c ≠ 0 := fun e => HP0.out (HC.out.1.trans e)
   have hb : (c != 0) = true := by simp [hc0]
   have HF := ld (And.intro hG6 hc0)
   obtain ⟨pb, hpb⟩ : ∃ pb, pb = w4.heap.size := ⟨_, rfl⟩
   clear hf6 hG6 hp6 hg6 hc0 hrule
   go_wp2
   rw [← hpb] at p11 ⊢
   have hpbl : w.heap.size + 1 < pb := by omega
   clear hpb
   refine wp_region_L (S := fun V => (w6).grownBy V (some (w.heap.size + 1))) (Z := []) (by kernel_rfl) ?_
   have hS := gdrew (World.grownBy.refl (w6) (some (w.heap.size + 1)))
   refine Wl.t1 0 39 (.pointer (some ⟨w.heap.size, 8, none⟩)) hS ?_
   (try simp only [Act.put, Wl.sA, Wl.sB, Wl.sC])
   refine Wl.t2 1 40 (.int .i64 at_) (fun w' hw' => ?_) hS ?_
   ·have hc0 := hw'.cell e8 (by first | (simp; omega) | simp); clear hw'; go_simp
   (try simp only [Act.put, Wl.sA, Wl.sB, Wl.sC])
   refine Wl.t1 2 41 (.pointer (some ⟨pb, 0, none⟩)) hS ?_
   (try simp only [Act.put, Wl.sA, Wl.sB, Wl.sC])
   refine Wl.t1 3 42 (.pointer (some ⟨pb, 0, none⟩)) hS ?_
   (try simp only [Act.put, Wl.sA, Wl.sB, Wl.sC])
   refine Wl.t1 4 43 (.pointer (some ⟨pb, 11, none⟩)) hS ?_
   (try simp only [Act.put, Wl.sA, Wl.sB, Wl.sC])
   refine Wl.t2 5 44 (.int .i64 c) (fun w' hw' => ?_) hS ?_
   ·have hc0 := hw'.cell p11 (by first | (simp; omega) | simp); clear hw'; go_simp
   (try simp only [Act.put, Wl.sA, Wl.sB, Wl.sC])
   refine Wl.t1 6 45 (.agg #[.int .i64 at_, .int .i64 c]) hS ?_
   (try simp only [Act.put, Wl.sA, Wl.sB, Wl.sC])
   refine Wl.t1 7 4 ((.slice none 0 0)) hS ?_
   (try simp only [Act.put, Wl.sA, Wl.sB, Wl.sC])
   have hrbd : (w6).drew.heap[w.heap.size + 1]? = some (.cells #[.int .i64 0, .int .i64 0] 46 (0, 0)) := hrb
   have hst := rowSet (cs := #[.int .i64 at_, .int .i64 c]) hrbd
   refine Wl.sk 8 ((w6).drew.setRow (w.heap.size + 1) #[.int .i64 at_, .int .i64 c]) (run_storeF _ _ rfl rfl rfl hrbd) (hS.trans hst.2) ?_
   (try simp only [Act.put, Wl.sA, Wl.sB, Wl.sC])
   refine wpL_done (by kernel_rfl) ?_ _
   obtain ⟨w7, hw7⟩ : ∃ w7, w7 = (w6).drew.setRow (w.heap.size + 1) #[.int .i64 at_, .int .i64 c] := ⟨_, rfl⟩
   rw [← hw7] at hst ⊢
   have hg7 := hS.trans hst.2
   have hh7 := hst.1
   clear hst hS hw7
   go_wp2
   (try simp only [Exit.inBlock, Exit.then])
   refine bodyPost_ret (results_tmp_cell rfl _ _ (w.heap.size + 1) 46 _ (0, 0) _ (.slice none 0 0) rfl rfl hh7 Tryz.underlying46 rfl (by kernel_rfl)) rfl ?_
   exact ⟨_, _, _, by rw [HC.out.1], HF.out.1.andThen hg7 (fun j e => .inl (by cases e; omega)), fun e => absurd e HP0.out⟩
 ·have hb : (y2 != 0) = true := by simp [h0]
  rw [hb] at hfd
  rw [if_pos h0]
  have H0 := ld h0
  clear h0 hb
  go_enter Tryz.func122, Tryz.ntmps122
  go_wp2_with (go_at_call 159; refine hru.mono ?_; rintro e w1 ⟨rfl, hg1⟩; refine Hid.out ?_)
  have hga := ga w1 (.cells #[.int .i64 (Ty.least f : Int), .int .i64 (mostI f), .func (.func (ruleF f)) #[] #[]] 101 (0, 0)) none
  have hrr := heap_alloc_new w1 (.cells #[.int .i64 (Ty.least f : Int), .int .i64 (mostI f), .func (.func (ruleF f)) #[] #[]] 101 (0, 0))
  have hgW := hg1.trans hga
  have hcall := HKI.out _ (HG2.out.1.trans hgW)
  have r0 := cell_of_row _ _ 0 _ _ _ hrr
  have r1 := cell_of_row _ _ 1 _ _ _ hrr
  have r2 := cell_of_row _ _ 2 _ _ _ hrr
  have v0 := hgW.cell HE.out.1 (by simp)
  have v1 := hgW.cell HE.out.2.1 (by simp)
  have v2 := hgW.cell HE.out.2.2.1 (by simp)
  have v3 := hgW.cell HE.out.2.2.2.1 (by simp)
  have v4 := hgW.cell HE.out.2.2.2.2.1 (by simp)
  have v5 := hgW.cell HE.out.2.2.2.2.2.1 (by simp)
  have v6 := hgW.cell HE.out.2.2.2.2.2.2.1 (by simp)
  have v7 := hgW.cell HE.out.2.2.2.2.2.2.2.1 (by simp)
  have v8 := hgW.cell HE.out.2.2.2.2.2.2.2.2 (by simp)
  have hs1 := hg1.size
  simp only [World.size_alloc] at hs1
  have HGW := ld (And.intro hgW hrr)
  clear hru hg1 hga hrr hgW e0 e1 e2 e3 e4 e5 e6 e7 e8
  unfold kPost at hcall
  refine ld ?_
  go_wp2_with (go_at_call 160; refine hcall.mono ?_; rintro e w3 ⟨ya, yn, yk, rfl, hg3, hf3⟩; refine Hid.out ?_)
  refine ld ?_
  go_wp2_with (go_at_call 17; refine (hfd _).mono ?_; rintro e w4 ⟨rfl, hg4⟩; refine Hid.out ?_)
  have hg34 : w3.grownBy w4 none := (ga w3 _ none).trans hg4
  have hgA := hg3.trans hg34
  have hrb := ((HGW.out.1.trans hgA).block _ (gl HG2.out.2) (by simp)).trans HG2.out.2
  have hfb := (hg4.block _ (by simp) (by simp)).trans (heap_alloc_new w3 (.cells #[.int .i64 y1, .int .i64 y2] 46 (0, 0)))
  have k0 := cell_of_row _ _ 0 _ _ _ hfb
  have k1 := cell_of_row _ _ 1 _ _ _ hfb
  have hs3 := (HG2.out.1.trans (HGW.out.1.trans hg3)).size
  have hs5 := hg3.size
  simp only [World.size_alloc] at hs5
  have HG4 := ld (HG2.out.1.trans (HGW.out.1.trans hgA))
  clear hcall hf3 hg34 hgA hg3 hg4 hfb r0 r1 r2 v0 v1 v2 v3 v4 v5 v6 v7 v8
  refine ld ?_
  go_wp2
  refine wp_region_L (S := fun V => (w4).grownBy V (some (w.heap.size + 1))) (Z := []) (by kernel_rfl) ?_
  have hS := gdrew (World.grownBy.refl (w4) (some (w.heap.size + 1)))
  refine Wl.t2 0 24 (.agg #[.int .i64 y1, .int .i64 y2]) (fun w' hw' => ?_) hS ?_
  ·have hc0 := hw'.cell k0 (by simp; omega); have hc1 := hw'.cell k1 (by simp; omega); clear hw'; go_simp
  (try simp only [Act.put, Wl.sA, Wl.sB, Wl.sC])
  refine Wl.t1 1 4 ((.slice none 0 0)) hS ?_
  (try simp only [Act.put, Wl.sA, Wl.sB, Wl.sC])
  have hrbd : (w4).drew.heap[w.heap.size + 1]? = some (.cells #[.int .i64 0, .int .i64 0] 46 (0, 0)) := hrb
  have hst := rowSet (cs := #[.int .i64 y1, .int .i64 y2]) hrbd
  refine Wl.sk 2 ((w4).drew.setRow (w.heap.size + 1) #[.int .i64 y1, .int .i64 y2]) (run_storeF _ _ rfl rfl rfl hrbd) (hS.trans hst.2) ?_
  (try simp only [Act.put, Wl.sA, Wl.sB, Wl.sC])
  refine wpL_done (by kernel_rfl) ?_ _
  obtain ⟨w7, hw7⟩ : ∃ w7, w7 = (w4).drew.setRow (w.heap.size + 1) #[.int .i64 y1, .int .i64 y2] := ⟨_, rfl⟩
  rw [← hw7] at hst ⊢
  have hg7 := hS.trans hst.2
  have hh7 := hst.1
  clear hst hS hw7
  go_wp2
  (try simp only [Exit.inBlock, Exit.then])
  refine bodyPost_ret (results_tmp_cell rfl _ _ (w.heap.size + 1) 46 _ (0, 0) _ (.slice none 0 0) rfl rfl hh7 Tryz.underlying46 rfl (by kernel_rfl)) rfl ?_
  exact ⟨_, _, _, rfl, HG4.out.andThen hg7 (fun j e => .inl (by cases e; omega)), fun e => absurd e H0.out⟩
theorem tof_any {w0 : World} {A : Aa} {N : List (List UInt8 × (Gram.Node × Nv))} {V : List (List UInt8 × Ty.T)} {cnt : Nat} : ∀ m, COf w0 A N V cnt m
 | 0 => fun x hx => by cases x; simp at hx
 | m + 1 => tof_step m (tof_any m)
def fPost (w : World) (F : Nam.F) (e : Ending) (w' : World) : Prop := e = .returned (.agg #[.int .i64 F.1, .int .i64 F.2]) ∧ w.grownBy w' none
namespace Ty
theorem sizes_next : ∀ (l : List Gram.Var) (t : Nat) (v : Gram.Var), l[t]? = some v → sizes (l.take t) = (0, 0) → sizes (l.take (t + 1)) = if v.tl > 16 then (v.at_, 23) else (0, 0)
 | [], t, v => by simp
 | x :: r, 0, v => by intro h _; simp at h; subst h; simp [sizes]
 | x :: r, t + 1, v => by
  intro h
  rw [List.take_succ_cons, List.take_succ_cons]
  simp only [sizes]
  by_cases h1 : x.tl > 16
  ·rw [if_pos h1]; intro e; simp at e
  ·rw [if_neg h1, if_neg h1]; exact sizes_next r t v (by simpa using h)
theorem sizes_bad : ∀ (l : List Gram.Var) (t : Nat), sizes (l.take t) ≠ (0, 0) → sizes l = sizes (l.take t)
 | [], t => by simp
 | x :: r, 0 => by simp [sizes]
 | x :: r, t + 1 => by
  rw [List.take_succ_cons]
  simp only [sizes]
  by_cases h1 : x.tl > 16
  ·rw [if_pos h1, if_pos h1]; exact fun _ => rfl
  ·rw [if_neg h1, if_neg h1]; exact sizes_bad r t
def okC (st : St) (v : Gram.Var) : Nam.F := if v.clock.all (fun g => varOf st g.name == tB) then (0, 0) else (v.at_, 22)
theorem clocks_next (st : St) : ∀ (l : List Gram.Var) (t : Nat) (v : Gram.Var), l[t]? = some v → clocks st (l.take t) = (0, 0) → clocks st (l.take (t + 1)) = okC st v
 | [], t, v => by simp
 | x :: r, 0, v => by intro h _; simp at h; subst h; simp [clocks, okC]
 | x :: r, t + 1, v => by
  intro h
  rw [List.take_succ_cons, List.take_succ_cons]
  simp only [clocks]
  by_cases h1 : x.clock.all (fun g => varOf st g.name == tB) = true
  ·rw [if_pos h1, if_pos h1]; exact clocks_next st r t v (by simpa using h)
  ·rw [if_neg h1]; intro e; simp at e
theorem clocks_bad (st : St) : ∀ (l : List Gram.Var) (t : Nat), clocks st (l.take t) ≠ (0, 0) → clocks st l = clocks st (l.take t)
 | [], t => by simp
 | x :: r, 0 => by simp [clocks]
 | x :: r, t + 1 => by
  rw [List.take_succ_cons]
  simp only [clocks]
  by_cases h1 : x.clock.all (fun g => varOf st g.name == tB) = true
  ·rw [if_pos h1, if_pos h1]; exact clocks_bad st r t
  ·rw [if_neg h1, if_neg h1]; exact fun _ => rfl
end Ty
theorem tsizes_any (w0 w : World) (hb : w0.grownBy w none) (vs : List Gram.Var) (a : Option Addr) (n c : Nat) (h : RepC w0 0 [] (.l 60 5 (vs.map varD)) (.slice a n c)) (hm : n ≤ 1000000) :
  Calls Tryz.prog 30 #[.slice a n c] w (fPost w (Ty.sizes vs)) := by
 obtain ⟨hL, _⟩ := varsLen h
 have HN := ld hL
 have HH := ld h
 have HB := ld hb
 have hrb := heap_alloc_new w (.cells #[.int .i64 0, .int .i64 0] 46 (0, 0))
 have HR := ld hrb
 clear hL h hb hrb
 go_enter Tryz.func30, Tryz.ntmps30
 go_wp2
 go_loopw [7] (fun iv wr => ∃ t : Nat, t ≤ n ∧ iv = .int .i64 (t : Int) ∧ Hid (w.grownBy wr none ∧ Ty.sizes (vs.take t) = (0, 0) ∧ wr.heap[w.heap.size]? = some (.cells #[.int .i64 0, .int .i64 0] 46 (0, 0)))) (fun i _ => n - (intOf i).toNat)
 case atStart => exact ⟨0, Nat.zero_le _, rfl, ld ⟨ga _ _ _, by simp [Ty.sizes], HR.out⟩⟩
 case round =>
  obtain ⟨t, htn, rfl, HQ⟩ := hrel
  obtain ⟨q1, q2, hrb⟩ := HQ.out
  by_cases hlt : t < n
  ·obtain ⟨v, hv⟩ : ∃ v, vs[t]? = some v := ⟨_, List.getElem?_eq_getElem (by rw [← HN.out]; exact hlt)⟩
   obtain ⟨g, ea, en, ec, rfl, u0, u1, u2, u3, u4, hed⟩ := varAt HH.out hv
   have hnx := Ty.sizes_next vs t v hv q2
   have hbd := Ty.sizes_bad vs (t + 1)
   have hg := HB.out.trans q1
   have v0 := hg.cell u0 (by simp)
   have v1 := hg.cell u1 (by simp)
   have v2 := hg.cell u2 (by simp)
   have v3 := hg.cell u3 (by simp)
   have v4 := hg.cell u4 (by simp)
   cases v with
   | mk vn vk vl cl va =>
   simp only at v0 v1 v2 v3 v4 hnx
   have hga := ga wr (.cells #[.string ⟨vn.toArray⟩, .int .i64 vk, .int .i64 vl, .slice ea en ec, .int .i64 va] 60 (0, 0)) none
   have hrw := (hga.block _ (gl hrb) (by simp)).trans hrb
   have HF := ld (And.intro (q1.trans hga) hrw)
   clear HQ q1 q2 hrb hv hg hed u0 u1 u2 u3 u4 hga
   by_cases h16 : vl > 16
   ·have d1 : decide (vl > 16) = true := by simpa using h16
    have d2 : decide (16 < vl) = true := by simpa using h16
    rw [if_pos h16] at hnx
    rw [hbd (by rw [hnx]; simp), hnx]
    clear hnx hbd h16
    go_wp2_with (with_reducible refine hold_st 2 ?_)
    refine ld ?_
    refine sg hrw ?_
    intro w7 hh7 hg7
    go_wp2
    (try simp only [Exit.inBlock, Exit.then])
    refine br hh7 Tryz.underlying46 ?_
    exact ⟨rfl, HF.out.1.andThen hg7 (fun j e => .inl (by cases e; exact Nat.le_refl _))⟩
   ·have d1 : decide (vl > 16) = false := by simpa using h16
    have d2 : decide (16 < vl) = false := by simpa using h16
    rw [if_neg h16] at hnx
    have HNX := ld hnx
    clear hnx hbd h16 hrw
    go_wp2
    exact ⟨⟨t + 1, by omega, by go_num, ld ⟨HF.out.1, HNX.out, HF.out.2⟩⟩, by simp [intOf]; omega⟩
  ·have e : t = n := by omega
   subst e
   have HF := ld (And.intro q1 q2)
   clear HQ q1 q2
   go_wp2_with (with_reducible refine hold_st 2 ?_)
   refine ld ?_
   refine sg hrb ?_
   intro w7 hh7 hg7
   go_wp2
   (try simp only [Exit.inBlock, Exit.then])
   refine br hh7 Tryz.underlying46 ?_
   have h9 := HF.out.2
   rw [List.take_of_length_le (by rw [← HN.out]; exact Nat.le_refl _)] at h9
   rw [h9]
   exact ⟨rfl, HF.out.1.andThen hg7 (fun j e => .inl (by cases e; exact Nat.le_refl _))⟩
theorem tclocks_any {w0 w : World} {A : Aa} {N : List (List UInt8 × (Gram.Node × Nv))} {V : List (List UInt8 × Ty.T)} {cnt : Nat} (hA : Ak w0 w A N V cnt) (vs : List Gram.Var) (a : Option Addr) (n c : Nat) (h : RepC w0 0 [] (.l 60 5 (vs.map varD)) (.slice a n c)) (hm : n ≤ 1000000) (hsh : ∀ v ∈ vs, ∀ g ∈ v.clock, Nam.short g.name = true) :
  Calls Tryz.prog 33 #[.pointer (some ⟨A.c, 0, none⟩), .slice a n c] w (fPost w (Ty.clocks (stOf N V) vs)) := by
 obtain ⟨hL, _⟩ := varsLen h
 have HN := ld hL
 have HH := ld h
 have HA := ld hA
 have HSH := ld hsh
 have hrb := heap_alloc_new w (.cells #[.int .i64 0, .int .i64 0] 46 (0, 0))
 have HR := ld hrb
 clear hL h hA hrb hsh
 go_enter Tryz.func33, Tryz.ntmps33
 go_wp2
 go_loopw [11] (fun iv wr => ∃ t : Nat, t ≤ n ∧ iv = .int .i64 (t : Int) ∧ Hid (w.grownBy wr none ∧ Ty.clocks (stOf N V) (vs.take t) = (0, 0) ∧ wr.heap[w.heap.size]? = some (.cells #[.int .i64 0, .int .i64 0] 46 (0, 0)))) (fun i _ => n - (intOf i).toNat)
 case atStart => exact ⟨0, Nat.zero_le _, rfl, ld ⟨ga _ _ _, by simp [Ty.clocks], HR.out⟩⟩
 case round =>
  obtain ⟨t, htn, rfl, HQ⟩ := hrel
  obtain ⟨wo, rfl⟩ : ∃ wo, wo = wr := ⟨_, rfl⟩
  obtain ⟨q1, q2, hrb⟩ := HQ.out
  by_cases hlt : t < n
  ·obtain ⟨v, hv⟩ : ∃ v, vs[t]? = some v := ⟨_, List.getElem?_eq_getElem (by rw [← HN.out]; exact hlt)⟩
   obtain ⟨g, ea, en, ec, rfl, u0, u1, u2, u3, u4, hed⟩ := varAt HH.out hv
   obtain ⟨hE, hEm⟩ := nLen hed
   rw [List.length_map] at hE
   unfold maxLen at hEm
   have hnx := Ty.clocks_next (stOf N V) vs t v hv q2
   have hbd := Ty.clocks_bad (stOf N V) vs (t + 1)
   have hgr := HA.out.base.trans q1
   have v0 := hgr.cell u0 (by simp)
   have v1 := hgr.cell u1 (by simp)
   have v2 := hgr.cell u2 (by simp)
   have v3 := hgr.cell u3 (by simp)
   have v4 := hgr.cell u4 (by simp)
   have hsv := HSH.out v (List.mem_of_getElem? hv)
   cases v with
   | mk vn vk vl cl va =>
   simp only at v0 v1 v2 v3 v4 hnx hed hE hsv
   unfold Ty.okC at hnx
   simp only at hnx
   have hga := ga wo (.cells #[.string ⟨vn.toArray⟩, .int .i64 vk, .int .i64 vl, .slice ea en ec, .int .i64 va] 60 (0, 0)) none
   have hvb := heap_alloc_new wo (.cells #[.string ⟨vn.toArray⟩, .int .i64 vk, .int .i64 vl, .slice ea en ec, .int .i64 va] 60 (0, 0))
   have HF := ld (And.intro (q1.trans hga) (And.intro ((hga.block _ (gl hrb) (by simp)).trans hrb) hvb))
   have HE := ld (And.intro hE (And.intro hed hsv))
   have HNX := ld (And.intro hnx hbd)
   have hs0 := q1.size
   have hs1 := gl hrb
   clear HQ q1 q2 hrb hv hgr u0 u1 u2 u3 u4 hga hvb hE hed hsv hnx hbd
   go_wp2
   go_loopw [18] (fun jv wq => ∃ u : Nat, u ≤ en ∧ jv = .int .i64 (u : Int) ∧ Hid ((wo.alloc (.cells #[.string ⟨vn.toArray⟩, .int .i64 vk, .int .i64 vl, .slice ea en ec, .int .i64 va] 60 (0, 0))).grownBy wq none ∧ (cl.take u).all (fun g => Ty.varOf (stOf N V) g.name == Ty.tB) = true)) (fun j _ => en - (intOf j).toNat)
   case atStart => exact ⟨0, Nat.zero_le _, rfl, ld ⟨World.grownBy.refl _ _, by simp⟩⟩
   case round =>
    obtain ⟨u, hu, rfl, HP⟩ := hrel
    obtain ⟨s1, s2⟩ := HP.out
    have hrq := (s1.block _ (gl HF.out.2.1) (by simp)).trans HF.out.2.1
    have hvq := (s1.block _ (gl HF.out.2.2) (by simp)).trans HF.out.2.2
    have hgq := HF.out.1.trans s1
    by_cases hlu : u < en
    ·obtain ⟨e, he⟩ : ∃ e, cl[u]? = some e := ⟨_, List.getElem?_eq_getElem (by rw [← HE.out.1]; exact hlu)⟩
     obtain ⟨eg, rfl, x0, x1⟩ := edgeAt HE.out.2.1 he
     have y0 := (HA.out.base.trans hgq).cell x0 (by simp)
     have y1 := (HA.out.base.trans hgq).cell x1 (by simp)
     have hse := HE.out.2.2 e (List.mem_of_getElem? he)
     have hnx : (cl.take (u + 1)).all (fun g => Ty.varOf (stOf N V) g.name == Ty.tB) = (Ty.varOf (stOf N V) e.name == Ty.tB) := by
      rw [List.take_add_one, he]
      simp [s2]
     have hal : (Ty.varOf (stOf N V) e.name == Ty.tB) = false → cl.all (fun g => Ty.varOf (stOf N V) g.name == Ty.tB) = false := fun hf => by
      rw [List.all_eq_false]
      exact ⟨e, List.mem_of_getElem? he, by simpa using hf⟩
     cases e with
     | mk en1 eo =>
     simp only at y0 y1 hse hnx hal
     obtain ⟨⟨t1, t2⟩, ht⟩ : ∃ T : Ty.T, T = Ty.varOf (stOf N V) en1 := ⟨_, rfl⟩
     rw [← ht] at hnx hal
     have hga := ga wr (.cells #[.string ⟨en1.toArray⟩, .bool eo] 92 (0, 0)) none
     have eb0 := cell_of_row _ _ 0 _ _ _ (heap_alloc_new wr (.cells #[.string ⟨en1.toArray⟩, .bool eo] 92 (0, 0)))
     have ac2 := cell_of_row _ _ 2 _ _ _ ((HA.out.kept hgq).kept hga).cc
     have HLK : Hid (∀ W, (wr.alloc (.cells #[.string ⟨en1.toArray⟩, .bool eo] 92 (0, 0))).grownBy W none → (Instr.lookup 67 (.map (some A.vb)) (.string ⟨en1.toArray⟩) false).run Tryz.prog W = .ok (.agg #[.int .i64 t1, .int .i64 t2]) W) := ld (fun W hW => by
      have := (((HA.out.kept hgq).kept hga).kept hW).var en1 hse
      have h8 : (Ty.look V en1).getD (0, 0) = (t1, t2) := ht.symm
      rw [h8] at this
      exact this)
     have HQ2 := ld (And.intro s1 (And.intro (s1.trans hga) (And.intro ((hga.block _ (gl hrq) (by simp)).trans hrq) ((hga.block _ (gl hvq) (by simp)).trans hvq))))
     have HNX2 := ld (And.intro hnx hal)
     have hsq := s1.size
     simp only [World.size_alloc] at hsq
     clear HP s1 s2 hrq hvq hgq he x0 x1 hse hnx hal ht hga
     go_wp2
     refine wp_region_L (S := fun V => (wr.alloc (.cells #[.string ⟨en1.toArray⟩, .bool eo] 92 (0, 0))).grownBy V none) (Z := []) (by kernel_rfl) ?_
     have hS := gdrew (World.grownBy.refl (wr.alloc (.cells #[.string ⟨en1.toArray⟩, .bool eo] 92 (0, 0))) none)
     refine Wl.t1 0 22 (.pointer (some ⟨A.c, 0, none⟩)) hS ?_
     (try simp only [Act.put, Wl.sA, Wl.sB, Wl.sC])
     refine Wl.t1 1 23 (.pointer (some ⟨A.c, 0, none⟩)) hS ?_
     (try simp only [Act.put, Wl.sA, Wl.sB, Wl.sC])
     refine Wl.t1 2 24 (.pointer (some ⟨A.c, 2, none⟩)) hS ?_
     (try simp only [Act.put, Wl.sA, Wl.sB, Wl.sC])
     refine Wl.t2 3 25 (.map (some A.vb)) (fun w' hw' => ?_) hS ?_
     ·have hc0 := hw'.cell ac2 (by simp); clear hw'; go_simp
     (try simp only [Act.put, Wl.sA, Wl.sB, Wl.sC])
     refine Wl.t1 4 26 (.pointer (some ⟨wr.heap.size, 0, none⟩)) hS ?_
     (try simp only [Act.put, Wl.sA, Wl.sB, Wl.sC])
     refine Wl.t2 5 27 (.string ⟨en1.toArray⟩) (fun w' hw' => ?_) hS ?_
     ·have hc0 := hw'.cell eb0 (by simp); clear hw'; go_simp
     (try simp only [Act.put, Wl.sA, Wl.sB, Wl.sC])
     refine Wl.t2 6 28 (.agg #[.int .i64 t1, .int .i64 t2]) (fun w' hw' => ?_) hS ?_
     ·have hl := HLK.out w' hw'; clear hw'; go_simp
     (try simp only [Act.put, Wl.sA, Wl.sB, Wl.sC])
     refine Wl.cg (R := fun v _ => v = .bool ((t1, t2) == Ty.tB)) 7 29 59 #[.agg #[.int .i64 t1, .int .i64 t2]] hS ((tisBool_any t1 t2 _).mono (by rintro e w' ⟨rfl, hg⟩; exact ⟨_, rfl, rfl, hg⟩)) ?_
     rintro u w5 rfl - hS
     (try simp only [Act.put, Wl.sA, Wl.sB, Wl.sC])
     refine Wl.t1 8 30 (.bool (!((t1, t2) == Ty.tB))) hS ?_
     (try simp only [Act.put, Wl.sA, Wl.sB, Wl.sC])
     refine wpL_done (by kernel_rfl) ?_ _
     have HS := ld hS
     cases hbq : ((t1, t2) == Ty.tB) with
     | true =>
      have hnx := HNX2.out.1
      rw [hbq] at hnx
      have HNX3 := ld hnx
      clear hnx hS hbq eb0 ac2 y0 y1
      go_wp2
      exact ⟨⟨u + 1, by omega, by go_num, ld ⟨HQ2.out.2.1.trans HS.out, HNX3.out⟩⟩, by simp [intOf]; omega⟩
     | false =>
      have h22 := HNX.out.1
      rw [HNX2.out.2 hbq, if_neg (by simp)] at h22
      have hres := HNX.out.2 (by rw [h22]; simp)
      rw [h22] at hres
      have HRES := ld hres
      have hrw := (HS.out.block _ (gl HQ2.out.2.2.1) (by simp)).trans HQ2.out.2.2.1
      have hvw := (HS.out.block _ (gl HQ2.out.2.2.2) (by simp)).trans HQ2.out.2.2.2
      have va4 := cell_of_row _ _ 4 _ _ _ hvw
      have HG := ld (HF.out.1.trans (HQ2.out.2.1.trans HS.out))
      clear h22 hres hS hbq eb0 ac2 y0 y1 hvw
      go_wp2_with (with_reducible refine hold_st 4 ?_)
      refine ld ?_
      refine sg hrw ?_
      intro w7 hh7 hg7
      go_wp2
      (try simp only [Exit.inBlock, Exit.then])
      refine br hh7 Tryz.underlying46 ?_
      rw [HRES.out]
      exact ⟨rfl, HG.out.andThen hg7 (fun j e => .inl (by cases e; exact Nat.le_refl _))⟩
    ·have e : u = en := by omega
     subst e
     have hs2 := s2
     rw [List.take_of_length_le (by rw [← HE.out.1]; exact Nat.le_refl _)] at hs2
     have hnx := HNX.out.1
     rw [if_pos hs2] at hnx
     have HG := ld (And.intro hgq (And.intro hnx hrq))
     clear HP s1 s2 hrq hvq hgq hs2 hnx
     go_wp2
     exact ⟨⟨t + 1, by omega, by go_num, ld ⟨HG.out.1, HG.out.2.1, HG.out.2.2⟩⟩, by simp [intOf]; omega⟩
  ·have e : t = n := by omega
   subst e
   have HF := ld (And.intro q1 q2)
   clear HQ q1 q2
   go_wp2_with (with_reducible refine hold_st 4 ?_)
   refine ld ?_
   refine sg hrb ?_
   intro w7 hh7 hg7
   go_wp2
   (try simp only [Exit.inBlock, Exit.then])
   refine br hh7 Tryz.underlying46 ?_
   have h9 := HF.out.2
   rw [List.take_of_length_le (by rw [← HN.out]; exact Nat.le_refl _)] at h9
   rw [h9]
   exact ⟨rfl, HF.out.1.andThen hg7 (fun j e => .inl (by cases e; exact Nat.le_refl _))⟩
namespace Ty
theorem eqv_next (st : St) (xs : List T) (ns : List Gram.B) (t : Nat) (x : T) (s : Gram.B) (hx : xs[t]? = some x) (hs : ns[t]? = some s) (h : xs.take t = (ns.take t).map (varOf st)) : (xs.take (t + 1) = (ns.take (t + 1)).map (varOf st)) ↔ x = varOf st s := by
 rw [List.take_add_one, List.take_add_one, hx, hs, List.map_append, h]
 simp
end Ty
theorem tequation_any {w0 w : World} {A : Aa} {N : List (List UInt8 × (Gram.Node × Nv))} {V : List (List UInt8 × Ty.T)} {cnt : Nat} (hA : Ak w0 w A N V cnt) (ns : List (List UInt8)) (e : Gram.Exp) (at_ : Int) (na : Option Addr) (nn nc : Nat) (hns : RepC w0 0 [] (.l 9 1 (ns.map nameD)) (.slice na nn nc)) (hsh : ∀ s ∈ ns, Nam.short s = true) (hnl : ns.length ≤ 100000) (hfe : Ty.fineE e = true) (ka : Option Addr) (kn kc : Nat) (hk : KidsX w0 0 [] e.kids (.slice ka kn kc)) (qa : Option Addr) (qn qc : Nat) (ss : List Gram.State) :
  Calls Tryz.prog 91 #[.pointer (some ⟨A.c, 0, none⟩), .agg (.slice na nn nc :: (expCells e (.slice ka kn kc) ++ [.slice qa qn qc, .int .i64 at_])).toArray] w (fPost w (Ty.item (stOf N V) (.mk ns e ss at_))) := by
 have hgI : ∀ o : Obj, w.grownBy ((w.alloc o).alloc fau0) none := fun o => galloc2 w _ _
 have hcall : ∀ W, w.grownBy W none → Calls Tryz.prog 122 #[.pointer (some ⟨A.c, 0, none⟩), .agg (expCells e (.slice ka kn kc)).toArray] W (ofPost W (Ty.of (stOf N V) e)) := fun W hW => tof_any _ e (Nat.le_refl _) hfe W ka kn kc (hA.kept hW) hk
 have hnL := nLen hns
 rw [List.length_map] at hnL
 obtain ⟨hnL, _⟩ := hnL
 cases e with
 | mk f s nm tk tl n m ks ea =>
 simp only [expCells, List.cons_append, List.nil_append] at hcall ⊢
 have hg2 := hgI (.cells #[.slice na nn nc, .int .i64 f, .int .i64 s, .string ⟨nm.toArray⟩, .int .i64 tk, .int .i64 tl, .int .i64 n, .int .i64 m, .slice ka kn kc, .int .i64 ea, .slice qa qn qc, .int .i64 at_] 88)
 have c0 : ∀ j u, (#[.slice na nn nc, .int .i64 f, .int .i64 s, .string ⟨nm.toArray⟩, .int .i64 tk, .int .i64 tl, .int .i64 n, .int .i64 m, .slice ka kn kc, .int .i64 ea, .slice qa qn qc, .int .i64 at_])[j]? = some u → ((w.alloc (.cells #[.slice na nn nc, .int .i64 f, .int .i64 s, .string ⟨nm.toArray⟩, .int .i64 tk, .int .i64 tl, .int .i64 n, .int .i64 m, .slice ka kn kc, .int .i64 ea, .slice qa qn qc, .int .i64 at_] 88)).alloc fau0).cell? ⟨w.heap.size, j, none⟩ = some u := fun j u hu => (ga _ _ none).cell ((cell_of_row _ _ j _ _ _ (heap_alloc_new w (.cells #[.slice na nn nc, .int .i64 f, .int .i64 s, .string ⟨nm.toArray⟩, .int .i64 tk, .int .i64 tl, .int .i64 n, .int .i64 m, .slice ka kn kc, .int .i64 ea, .slice qa qn qc, .int .i64 at_] 88 (0, 0)))).trans hu) (by simp)
 have hrb0 : ((w.alloc (.cells #[.slice na nn nc, .int .i64 f, .int .i64 s, .string ⟨nm.toArray⟩, .int .i64 tk, .int .i64 tl, .int .i64 n, .int .i64 m, .slice ka kn kc, .int .i64 ea, .slice qa qn qc, .int .i64 at_] 88)).alloc fau0).heap[w.heap.size + 1]? = some (.cells #[.int .i64 0, .int .i64 0] 46 (0, 0)) := heap_alloc_2 w _ _
 have hc1 := hcall _ hg2
 obtain ⟨y, hy⟩ : ∃ y, y = Ty.of (stOf N V) (.mk f s nm tk tl n m ks ea) := ⟨_, rfl⟩
 unfold Ty.item
 simp only
 rw [← hy] at hc1 ⊢
 obtain ⟨yt, y1, y2⟩ := y
 simp only at hc1 ⊢
 have e0 := c0 0 _ rfl
 have e1 := c0 1 _ rfl
 have e2 := c0 2 _ rfl
 have e3 := c0 3 _ rfl
 have e4 := c0 4 _ rfl
 have e5 := c0 5 _ rfl
 have e6 := c0 6 _ rfl
 have e7 := c0 7 _ rfl
 have e8 := c0 8 _ rfl
 have e9 := c0 9 _ rfl
 have HE := ld (And.intro (c0 0 _ rfl) (c0 11 _ rfl))
 have HG2 := ld (And.intro hg2 hrb0)
 have HA := ld hA
 have HNS := ld (And.intro hns (And.intro hsh hnL))
 have hfd := tfound_any y1 y2
 clear hcall hgI hg2 hrb0 c0 hy hA hns hsh hk hfe hnL
 unfold fau0 at *
 unfold ofPost at hc1
 by_cases h0 : y2 = 0
 ·have hb : (y2 != 0) = false := by simp [h0]
  rw [hb] at hfd
  rw [if_neg (by simp [h0])]
  have H0 := ld h0
  clear h0 hb
  by_cases hll : yt.length = ns.length
  ·rw [if_neg (by simp [hll])]
   have HLL := ld hll
   clear hll
   obtain ⟨R, hR⟩ : ∃ R : Nam.F, R = if yt == ns.map (Ty.varOf (stOf N V)) then (0, 0) else (at_, 22) := ⟨_, rfl⟩
   rw [← hR]
   have HRR := ld hR
   clear hR
   go_enter Tryz.func91, Tryz.ntmps91
   go_wp2_with (go_at_call 122; refine hc1.mono ?_; rintro e w1 ⟨ya, yn, yk, rfl, hg1, hf1⟩; refine Hid.out ?_)
   refine ld ?_
   go_wp2_with (go_at_call 17; refine (hfd _).mono ?_; rintro e w2 ⟨rfl, hg3⟩; refine Hid.out ?_)
   obtain ⟨hyn, hyl, hyt, hyw⟩ := hf1 H0.out
   have hg12 : w1.grownBy w2 none := (ga w1 _ none).trans hg3
   have hgW := hg1.trans hg12
   have i0 := hgW.cell HE.out.1 (by simp)
   have i11 := hgW.cell HE.out.2 (by simp)
   have hrb2 := (hgW.block _ (gl HG2.out.2) (by simp)).trans HG2.out.2
   have hnn : yn = nn := by have := HLL.out; have := HNS.out.2.2; omega
   have hb1 : ((yn : Int) != (nn : Int)) = false := by rw [hnn]; simp
   have HY := ld (And.intro (hyt.kept hg12) hyn)
   have HGW := ld (And.intro (HG2.out.1.trans hgW) (And.intro hrb2 i11))
   have hnn2 : nn ≤ 100000 := by have := HNS.out.2.2; omega
   have HNN := ld hnn
   clear hc1 hf1 hyn hyl hyt hyw hg1 hg3 hg12 hgW hrb2 e0 e1 e2 e3 e4 e5 e6 e7 e8 e9 i11 hnn
   refine ld ?_
   go_wp2
   go_loopw [31] (fun iv wr => ∃ u : Nat, u ≤ nn ∧ iv = .int .i64 (u : Int) ∧ Hid (w2.grownBy wr none ∧ yt.take u = (ns.take u).map (Ty.varOf (stOf N V)))) (fun i _ => nn - (intOf i).toNat)
   case atStart => exact ⟨0, Nat.zero_le _, rfl, ld ⟨World.grownBy.refl _ _, by simp⟩⟩
   case round =>
    obtain ⟨u, hun, rfl, HQ⟩ := hrel
    obtain ⟨q1, q2⟩ := HQ.out
    by_cases hlt : u < nn
    ·obtain ⟨s1, hs1⟩ : ∃ s1, ns[u]? = some s1 := ⟨_, List.getElem?_eq_getElem (by rw [← HNS.out.2.2]; exact hlt)⟩
     obtain ⟨x, hx⟩ : ∃ x, yt[u]? = some x := ⟨_, List.getElem?_eq_getElem (by rw [HLL.out, ← HNS.out.2.2]; exact hlt)⟩
     obtain ⟨gn, rfl, xn⟩ := nameAt HNS.out.1 hs1
     obtain ⟨gy, oy, rfl, xy0, xy1⟩ := HY.out.1 u x hx
     have hgq := HGW.out.1.trans q1
     have v0 := (HA.out.base.trans hgq).cell xn (by simp)
     have z0 := q1.cell xy0 (by simp)
     have z1 := q1.cell xy1 (by simp)
     have hss := HNS.out.2.1 s1 (List.mem_of_getElem? hs1)
     have hnx := Ty.eqv_next (stOf N V) yt ns u x s1 hx hs1 q2
     have hne : x ≠ Ty.varOf (stOf N V) s1 → (yt == ns.map (Ty.varOf (stOf N V))) = false := fun h1 => by
      rw [beq_eq_false_iff_ne]
      intro h2
      apply h1
      have h3 : (ns.map (Ty.varOf (stOf N V)))[u]? = some (Ty.varOf (stOf N V) s1) := by rw [List.getElem?_map, hs1]; rfl
      rw [← h2, hx] at h3
      exact Option.some.inj h3
     obtain ⟨⟨t1, t2⟩, ht⟩ : ∃ T : Ty.T, T = Ty.varOf (stOf N V) s1 := ⟨_, rfl⟩
     rw [← ht] at hnx hne
     have ac2 := cell_of_row _ _ 2 _ _ _ (HA.out.kept hgq).cc
     have HLK : Hid (∀ W, wr.grownBy W none → (Instr.lookup 67 (.map (some A.vb)) (.string ⟨s1.toArray⟩) false).run Tryz.prog W = .ok (.agg #[.int .i64 t1, .int .i64 t2]) W) := ld (fun W hW => by
      have := ((HA.out.kept hgq).kept hW).var s1 hss
      have h8 : (Ty.look V s1).getD (0, 0) = (t1, t2) := ht.symm
      rw [h8] at this
      exact this)
     have HQ2 := ld (And.intro q1 (And.intro hnx hne))
     have hyn2 : yn = nn := HNN.out
     have hult : u < yn := by omega
     clear HQ q1 q2 hs1 hx xn xy0 xy1 hgq hss hnx hne ht hyn2
     go_wp2
     refine wp_region_L (S := fun V => wr.grownBy V none) (Z := []) (by kernel_rfl) ?_
     have hS := gdrew (World.grownBy.refl wr none)
     refine Wl.t1 0 36 (.slice (some ⟨gy, oy, none⟩) yn yk) hS ?_
     (try simp only [Act.put, Wl.sA, Wl.sB, Wl.sC])
     refine Wl.t1 1 37 (.int .i64 (u : Int)) hS ?_
     (try simp only [Act.put, Wl.sA, Wl.sB, Wl.sC])
     refine Wl.t2 2 38 (.pointer (some ⟨gy, oy + u * 2, none⟩)) (fun w' hw' => ?_) hS ?_
     ·clear hw'; go_simp
     (try simp only [Act.put, Wl.sA, Wl.sB, Wl.sC])
     refine Wl.t2 3 39 (.agg #[.int .i64 x.1, .int .i64 x.2]) (fun w' hw' => ?_) hS ?_
     ·have hc0 := hw'.cell z0 (by simp); have hc1 := hw'.cell z1 (by simp); clear hw'; go_simp
     (try simp only [Act.put, Wl.sA, Wl.sB, Wl.sC])
     refine Wl.t1 4 40 (.pointer (some ⟨A.c, 0, none⟩)) hS ?_
     (try simp only [Act.put, Wl.sA, Wl.sB, Wl.sC])
     refine Wl.t1 5 41 (.pointer (some ⟨A.c, 0, none⟩)) hS ?_
     (try simp only [Act.put, Wl.sA, Wl.sB, Wl.sC])
     refine Wl.t1 6 42 (.pointer (some ⟨A.c, 2, none⟩)) hS ?_
     (try simp only [Act.put, Wl.sA, Wl.sB, Wl.sC])
     refine Wl.t2 7 43 (.map (some A.vb)) (fun w' hw' => ?_) hS ?_
     ·have hc0 := hw'.cell ac2 (by simp); clear hw'; go_simp
     (try simp only [Act.put, Wl.sA, Wl.sB, Wl.sC])
     refine Wl.t1 8 44 (.string ⟨s1.toArray⟩) hS ?_
     (try simp only [Act.put, Wl.sA, Wl.sB, Wl.sC])
     refine Wl.t2 9 45 (.agg #[.int .i64 t1, .int .i64 t2]) (fun w' hw' => ?_) hS ?_
     ·have hl := HLK.out w' hw'; clear hw'; go_simp
     (try simp only [Act.put, Wl.sA, Wl.sB, Wl.sC])
     refine Wl.t2 10 46 (.bool ((x.1, x.2) != (t1, t2))) (fun w' hw' => run_neT _ _ _ _ _ _ _ _ _ rfl rfl rfl) hS ?_
     (try simp only [Act.put, Wl.sA, Wl.sB, Wl.sC])
     refine wpL_done (by kernel_rfl) ?_ _
     have HS := ld hS
     clear hS
     by_cases hxe : x = (t1, t2)
     ·have hbq : ((x.1, x.2) != (t1, t2)) = false := by rw [hxe]; simp
      have HX := ld (HQ2.out.2.1.2 hxe)
      rw [hbq]
      clear hxe hbq z0 z1 ac2 v0
      go_wp2
      exact ⟨⟨u + 1, by omega, by go_num, ld ⟨HQ2.out.1.trans HS.out, HX.out⟩⟩, by simp [intOf]; omega⟩
     ·have hbq : ((x.1, x.2) != (t1, t2)) = true := by simp; intro h1 h2; exact hxe (Prod.ext h1 h2)
      have hres := HRR.out
      rw [HQ2.out.2.2 hxe, if_neg (by simp)] at hres
      have HRES := ld hres
      have hG := HQ2.out.1.trans HS.out
      have hrw := (hG.block _ (gl HGW.out.2.1) (by simp)).trans HGW.out.2.1
      have j11 := hG.cell HGW.out.2.2 (by simp)
      have HG9 := ld (HGW.out.1.trans hG)
      rw [hbq]
      clear hxe hbq z0 z1 ac2 v0 hres hG
      go_wp2_with (with_reducible refine hold_st 4 ?_)
      refine ld ?_
      refine sg hrw ?_
      intro w7 hh7 hg7
      go_wp2
      (try simp only [Exit.inBlock, Exit.then])
      refine br hh7 Tryz.underlying46 ?_
      rw [HRES.out]
      exact ⟨rfl, HG9.out.andThen hg7 (fun j e => .inl (by cases e; exact Nat.le_succ _))⟩
    ·have e : u = nn := by omega
     subst e
     have hq2 := q2
     rw [List.take_of_length_le (by rw [HLL.out, ← HNS.out.2.2]; exact Nat.le_refl _), List.take_of_length_le (by rw [← HNS.out.2.2]; exact Nat.le_refl _)] at hq2
     have hres := HRR.out
     rw [if_pos (by rw [hq2]; simp)] at hres
     have HRES := ld hres
     have hrw := (q1.block _ (gl HGW.out.2.1) (by simp)).trans HGW.out.2.1
     have HG9 := ld (HGW.out.1.trans q1)
     clear HQ q1 q2 hq2 hres
     go_wp2_with (with_reducible refine hold_st 4 ?_)
     refine ld ?_
     refine sg hrw ?_
     intro w7 hh7 hg7
     go_wp2
     (try simp only [Exit.inBlock, Exit.then])
     refine br hh7 Tryz.underlying46 ?_
     rw [HRES.out]
     exact ⟨rfl, HG9.out.andThen hg7 (fun j e => .inl (by cases e; exact Nat.le_succ _))⟩
  ·rw [if_pos hll]
   have HLL := ld hll
   clear hll
   go_enter Tryz.func91, Tryz.ntmps91
   go_wp2_with (go_at_call 122; refine hc1.mono ?_; rintro e w1 ⟨ya, yn, yk, rfl, hg1, hf1⟩; refine Hid.out ?_)
   refine ld ?_
   go_wp2_with (go_at_call 17; refine (hfd _).mono ?_; rintro e w2 ⟨rfl, hg3⟩; refine Hid.out ?_)
   obtain ⟨hyn, hyl, hyt, hyw⟩ := hf1 H0.out
   have hg12 : w1.grownBy w2 none := (ga w1 _ none).trans hg3
   have hgW := hg1.trans hg12
   have i0 := hgW.cell HE.out.1 (by simp)
   have i11 := hgW.cell HE.out.2 (by simp)
   have hrw := (hgW.block _ (gl HG2.out.2) (by simp)).trans HG2.out.2
   have hb1 : ((yn : Int) != (nn : Int)) = true := by have := HLL.out; have := HNS.out.2.2; simp; omega
   have HG9 := ld (HG2.out.1.trans hgW)
   clear hc1 hf1 hyn hyl hyt hyw hg1 hg3 hg12 hgW e0 e1 e2 e3 e4 e5 e6 e7 e8 e9
   refine ld ?_
   go_wp2_with (with_reducible refine hold_st 4 ?_)
   refine ld ?_
   refine sg hrw ?_
   intro w7 hh7 hg7
   go_wp2
   (try simp only [Exit.inBlock, Exit.then])
   refine br hh7 Tryz.underlying46 ?_
   exact ⟨rfl, HG9.out.andThen hg7 (fun j e => .inl (by cases e; exact Nat.le_succ _))⟩
 ·have hb : (y2 != 0) = true := by simp [h0]
  rw [hb] at hfd
  rw [if_pos h0]
  clear h0 hb
  go_enter Tryz.func91, Tryz.ntmps91
  go_wp2_with (go_at_call 122; refine hc1.mono ?_; rintro e w1 ⟨ya, yn, yk, rfl, hg1, hf1⟩; refine Hid.out ?_)
  refine ld ?_
  go_wp2_with (go_at_call 17; refine (hfd _).mono ?_; rintro e w2 ⟨rfl, hg3⟩; refine Hid.out ?_)
  have hg12 : w1.grownBy w2 none := (ga w1 _ none).trans hg3
  have hgW := hg1.trans hg12
  have hfb := (hg3.block _ (by simp) (by simp)).trans (heap_alloc_new w1 (.cells #[.int .i64 y1, .int .i64 y2] 46 (0, 0)))
  have k0 := cell_of_row _ _ 0 _ _ _ hfb
  have k1 := cell_of_row _ _ 1 _ _ _ hfb
  have hrw := (hgW.block _ (gl HG2.out.2) (by simp)).trans HG2.out.2
  have HG9 := ld (HG2.out.1.trans hgW)
  clear hc1 hf1 hg1 hg3 hg12 hgW e0 e1 e2 e3 e4 e5 e6 e7 e8 e9 hfb
  refine ld ?_
  go_wp2_with (with_reducible refine hold_st 4 ?_)
  refine ld ?_
  refine sg hrw ?_
  intro w7 hh7 hg7
  go_wp2
  (try simp only [Exit.inBlock, Exit.then])
  refine br hh7 Tryz.underlying46 ?_
  exact ⟨rfl, HG9.out.andThen hg7 (fun j e => .inl (by cases e; exact Nat.le_succ _))⟩
theorem titem_any {w0 w : World} {A : Aa} {N : List (List UInt8 × (Gram.Node × Nv))} {V : List (List UInt8 × Ty.T)} {cnt : Nat} (hA : Ak w0 w A N V cnt) (ns : List (List UInt8)) (e : Gram.Exp) (at_ : Int) (na : Option Addr) (nn nc : Nat) (hns : RepC w0 0 [] (.l 9 1 (ns.map nameD)) (.slice na nn nc)) (hsh : ∀ s ∈ ns, Nam.short s = true) (hnl : ns.length ≤ 100000) (hfe : Ty.fineE e = true) (ka : Option Addr) (kn kc : Nat) (hk : KidsX w0 0 [] e.kids (.slice ka kn kc)) (qa : Option Addr) (qc : Nat) :
  Calls Tryz.prog 60 #[.pointer (some ⟨A.c, 0, none⟩), .agg (.slice na nn nc :: (expCells e (.slice ka kn kc) ++ [.slice qa 0 qc, .int .i64 at_])).toArray] w (fPost w (Ty.item (stOf N V) (.mk ns e [] at_))) := by
 have hcall : ∀ W, w.grownBy W none → Calls Tryz.prog 91 #[.pointer (some ⟨A.c, 0, none⟩), .agg (.slice na nn nc :: (expCells e (.slice ka kn kc) ++ [.slice qa 0 qc, .int .i64 at_])).toArray] W (fPost W (Ty.item (stOf N V) (.mk ns e [] at_))) := fun W hW => tequation_any (hA.kept hW) ns e at_ na nn nc hns hsh hnl hfe ka kn kc hk qa 0 qc []
 obtain ⟨R, hR⟩ : ∃ R, R = Ty.item (stOf N V) (.mk ns e [] at_) := ⟨_, rfl⟩
 rw [← hR] at hcall ⊢
 clear hR hns hfe hk hA
 cases e with
 | mk f s nm tk tl n m ks ea =>
 simp only [expCells, List.cons_append, List.nil_append] at hcall ⊢
 have hg2 : w.grownBy ((w.alloc (.cells #[.slice na nn nc, .int .i64 f, .int .i64 s, .string ⟨nm.toArray⟩, .int .i64 tk, .int .i64 tl, .int .i64 n, .int .i64 m, .slice ka kn kc, .int .i64 ea, .slice qa 0 qc, .int .i64 at_] 88)).alloc fau0) none := galloc2 w _ _
 have hrb0 : ((w.alloc (.cells #[.slice na nn nc, .int .i64 f, .int .i64 s, .string ⟨nm.toArray⟩, .int .i64 tk, .int .i64 tl, .int .i64 n, .int .i64 m, .slice ka kn kc, .int .i64 ea, .slice qa 0 qc, .int .i64 at_] 88)).alloc fau0).heap[w.heap.size + 1]? = some (.cells #[.int .i64 0, .int .i64 0] 46 (0, 0)) := heap_alloc_2 w _ _
 have hc1 := hcall _ hg2
 have HG2 := ld (And.intro hg2 hrb0)
 clear hcall hg2 hrb0
 unfold fau0 at *
 unfold fPost at hc1
 go_enter Tryz.func60, Tryz.ntmps60
 go_wp2_with (go_at_call 91; refine hc1.mono ?_; rintro e w1 ⟨rfl, hg1⟩; refine Hid.out ?_)
 have hrw := (hg1.block _ (gl HG2.out.2) (by simp)).trans HG2.out.2
 have HG9 := ld (HG2.out.1.trans hg1)
 clear hc1 hg1
 refine ld ?_
 go_wp2_with (with_reducible refine hold_st 4 ?_)
 refine ld ?_
 refine sg hrw ?_
 intro w7 hh7 hg7
 go_wp2
 (try simp only [Exit.inBlock, Exit.then])
 refine br hh7 Tryz.underlying46 ?_
 exact ⟨rfl, HG9.out.andThen hg7 (fun j e => .inl (by cases e; exact Nat.le_succ _))⟩
namespace Ty
def fineI : Gram.Item → Bool
 | .mk ns e ss _ => ss.isEmpty && ns.all (fun s => Nam.short s) && decide (ns.length ≤ 100000) && fineE e
theorem item_ok (st : St) (i : Gram.Item) (h : (item st i).2 = 0) : item st i = (0, 0) := by
 cases i with
 | mk ns e ss a =>
 unfold item at h ⊢
 simp only at h ⊢
 split at h
 ·contradiction
 ·rename_i h1
  rw [if_neg h1]
  split at h
  ·simp at h
  ·rename_i h2
   rw [if_neg h2]
   split at h
   ·rename_i h3; rw [if_pos h3]
   ·simp at h
theorem items_next (st : St) : ∀ (l : List Gram.Item) (t : Nat) (v : Gram.Item), l[t]? = some v → items st (l.take t) = (0, 0) → items st (l.take (t + 1)) = item st v
 | [], t, v => by simp
 | x :: r, 0, v => by
  intro h _
  simp at h
  subst h
  simp only [List.take_succ_cons, List.take_zero, items]
  by_cases h1 : (item st x).2 ≠ 0
  ·rw [if_pos h1]
  ·rw [if_neg h1, item_ok st x (by simpa using h1)]
 | x :: r, t + 1, v => by
  intro h
  rw [List.take_succ_cons, List.take_succ_cons]
  simp only [items]
  by_cases h1 : (item st x).2 ≠ 0
  ·rw [if_pos h1]; intro e; rw [e] at h1; simp at h1
  ·rw [if_neg h1, if_neg h1]; exact items_next st r t v (by simpa using h)
theorem items_bad (st : St) : ∀ (l : List Gram.Item) (t : Nat), (items st (l.take t)).2 ≠ 0 → items st l = items st (l.take t)
 | [], t => by simp
 | x :: r, 0 => by simp [items]
 | x :: r, t + 1 => by
  rw [List.take_succ_cons]
  simp only [items]
  by_cases h1 : (item st x).2 ≠ 0
  ·rw [if_pos h1, if_pos h1]; exact fun _ => rfl
  ·rw [if_neg h1, if_neg h1]; exact items_bad st r t
theorem items_ok (st : St) : ∀ (l : List Gram.Item), (items st l).2 = 0 → items st l = (0, 0)
 | [] => by simp [items]
 | x :: r => by
  simp only [items]
  by_cases h1 : (item st x).2 ≠ 0
  ·rw [if_pos h1]; intro h; exact absurd h h1
  ·rw [if_neg h1]; exact items_ok st r
end Ty
theorem titems_any {w0 w : World} {A : Aa} {N : List (List UInt8 × (Gram.Node × Nv))} {V : List (List UInt8 × Ty.T)} {cnt : Nat} (hA : Ak w0 w A N V cnt) (its : List Gram.Item) (a : Option Addr) (n c : Nat) (h : RepC w0 0 [] (.l 88 12 (itemsD its)) (.slice a n c)) (hm : n ≤ 1000000) (hfi : ∀ i ∈ its, Ty.fineI i = true) :
  Calls Tryz.prog 35 #[.pointer (some ⟨A.c, 0, none⟩), .slice a n c] w (fPost w (Ty.items (stOf N V) its)) := by
 have hL := (nLen h).1
 rw [itemsD_map, List.length_map] at hL
 have HN := ld hL
 have HH := ld h
 have HA := ld hA
 have HFI := ld hfi
 have hrb := heap_alloc_new w (.cells #[.int .i64 0, .int .i64 0] 46 (0, 0))
 have HR := ld hrb
 clear hL h hA hrb hfi
 go_enter Tryz.func35, Tryz.ntmps35
 go_wp2
 go_loopw [10] (fun iv wr => ∃ t : Nat, t ≤ n ∧ iv = .int .i64 (t : Int) ∧ Hid (w.grownBy wr none ∧ Ty.items (stOf N V) (its.take t) = (0, 0) ∧ wr.heap[w.heap.size]? = some (.cells #[.int .i64 0, .int .i64 0] 46 (0, 0)))) (fun i _ => n - (intOf i).toNat)
 case atStart => exact ⟨0, Nat.zero_le _, rfl, ld ⟨ga _ _ _, by simp [Ty.items], HR.out⟩⟩
 case round =>
  obtain ⟨t, htn, rfl, HQ⟩ := hrel
  obtain ⟨q1, q2, hrb⟩ := HQ.out
  by_cases hlt : t < n
  ·obtain ⟨v, hv⟩ : ∃ v, its[t]? = some v := ⟨_, List.getElem?_eq_getElem (by rw [← HN.out]; exact hlt)⟩
   have hnx := Ty.items_next (stOf N V) its t v hv q2
   have hbd := Ty.items_bad (stOf N V) its (t + 1)
   have hfv := HFI.out v (List.mem_of_getElem? hv)
   cases v with
   | mk ns e ss at_ =>
   unfold Ty.fineI at hfv
   simp only [Bool.and_eq_true, decide_eq_true_eq, List.isEmpty_iff, List.all_eq_true] at hfv
   obtain ⟨⟨⟨rfl, f1⟩, f2⟩, f3⟩ := hfv
   obtain ⟨g, na, nn, nc, ka, kn, kc, qa, qn, qc, rfl, xn, xk, xs, hq⟩ := itemAt HH.out hv
   have hq0 : qn = 0 := by have := (nLen xs).1; simp [statesD] at this; exact this
   subst hq0
   have hg := HA.out.base.trans q1
   have hga := ga wr (.cells (.slice na nn nc :: (expCells e (.slice ka kn kc) ++ [.slice qa 0 qc, .int .i64 at_])).toArray 88 (0, 0)) none
   have hb1 := heap_alloc_new wr (.cells (.slice na nn nc :: (expCells e (.slice ka kn kc) ++ [.slice qa 0 qc, .int .i64 at_])).toArray 88 (0, 0))
   have hcall := titem_any ((HA.out.kept q1).kept hga) ns e at_ na nn nc xn f1 f2 f3 ka kn kc xk qa qc
   obtain ⟨⟨y1, y2⟩, hy⟩ : ∃ R : Nam.F, R = Ty.item (stOf N V) (.mk ns e [] at_) := ⟨_, rfl⟩
   rw [← hy] at hcall hnx
   have hz : y2 = 0 → (y1, y2) = ((0, 0) : Nam.F) := fun h => by rw [hy]; exact Ty.item_ok _ _ (by rw [← hy]; exact h)
   have hrw := (hga.block _ (gl hrb) (by simp)).trans hrb
   have HF := ld (And.intro (q1.trans hga) (And.intro hrw (And.intro hnx (And.intro hbd hz))))
   have hfd := tfound_any y1 y2
   cases e with
   | mk f s nm tk tl k m ks ea =>
   simp only [expCells, List.cons_append, List.nil_append] at hq hcall hb1
   have v0 : wr.cell? ⟨g, t * 12, none⟩ = _ := hg.cell (hq 0 _ rfl) (by simp)
   have v1 := hg.cell (hq 1 _ rfl) (by simp)
   have v2 := hg.cell (hq 2 _ rfl) (by simp)
   have v3 := hg.cell (hq 3 _ rfl) (by simp)
   have v4 := hg.cell (hq 4 _ rfl) (by simp)
   have v5 := hg.cell (hq 5 _ rfl) (by simp)
   have v6 := hg.cell (hq 6 _ rfl) (by simp)
   have v7 := hg.cell (hq 7 _ rfl) (by simp)
   have v8 := hg.cell (hq 8 _ rfl) (by simp)
   have v9 := hg.cell (hq 9 _ rfl) (by simp)
   have v10 := hg.cell (hq 10 _ rfl) (by simp)
   have v11 := hg.cell (hq 11 _ rfl) (by simp)
   have ib : ∀ j u, (#[.slice na nn nc, .int .i64 f, .int .i64 s, .string ⟨nm.toArray⟩, .int .i64 tk, .int .i64 tl, .int .i64 k, .int .i64 m, .slice ka kn kc, .int .i64 ea, .slice qa 0 qc, .int .i64 at_] : Array Value)[j]? = some u → _ = some u := fun j u hu => (cell_of_row _ _ j _ _ _ hb1).trans hu
   have i0 := ib 0 _ rfl
   have i1 := ib 1 _ rfl
   have i2 := ib 2 _ rfl
   have i3 := ib 3 _ rfl
   have i4 := ib 4 _ rfl
   have i5 := ib 5 _ rfl
   have i6 := ib 6 _ rfl
   have i7 := ib 7 _ rfl
   have i8 := ib 8 _ rfl
   have i9 := ib 9 _ rfl
   have i10 := ib 10 _ rfl
   have i11 := ib 11 _ rfl
   clear HQ q1 q2 hrb hv hg hga hb1 ib hq hnx hbd hy xn xk xs f1 f2 f3 hz hrw
   unfold fPost at hcall
   by_cases h0 : y2 = 0
   ·have hb : (y2 != 0) = false := by simp [h0]
    rw [hb] at hfd
    have H0 := ld h0
    clear h0 hb
    go_wp2_with (go_at_call 60; refine hcall.mono ?_; rintro e w1 ⟨rfl, hg1⟩; refine Hid.out ?_)
    refine ld ?_
    go_wp2_with (go_at_call 17; refine (hfd _).mono ?_; rintro e w2 ⟨rfl, hg3⟩; refine Hid.out ?_)
    have hgW := hg1.trans ((ga w1 _ none).trans hg3)
    have HG := ld (And.intro (HF.out.1.trans hgW) ((hgW.block _ (gl HF.out.2.1) (by simp)).trans HF.out.2.1))
    clear hcall hg1 hg3 hgW v0 v1 v2 v3 v4 v5 v6 v7 v8 v9 v10 v11 i0 i1 i2 i3 i4 i5 i6 i7 i8 i9 i10 i11
    refine ld ?_
    go_wp2
    exact ⟨⟨t + 1, by omega, by go_num, ld ⟨HG.out.1, HF.out.2.2.1.trans (HF.out.2.2.2.2 H0.out), HG.out.2⟩⟩, by simp [intOf]; omega⟩
   ·have hb : (y2 != 0) = true := by simp [h0]
    rw [hb] at hfd
    have H0 := ld h0
    clear h0 hb
    go_wp2_with (go_at_call 60; refine hcall.mono ?_; rintro e w1 ⟨rfl, hg1⟩; refine Hid.out ?_)
    refine ld ?_
    go_wp2_with (go_at_call 17; refine (hfd _).mono ?_; rintro e w2 ⟨rfl, hg3⟩; refine Hid.out ?_)
    have hgW := hg1.trans ((ga w1 _ none).trans hg3)
    have hfb := (hg3.block _ (by simp) (by simp)).trans (heap_alloc_new w1 (.cells #[.int .i64 y1, .int .i64 y2] 46 (0, 0)))
    have k0 := cell_of_row _ _ 0 _ _ _ hfb
    have k1 := cell_of_row _ _ 1 _ _ _ hfb
    have hrw := (hgW.block _ (gl HF.out.2.1) (by simp)).trans HF.out.2.1
    have hres := HF.out.2.2.2.1 (by rw [HF.out.2.2.1]; exact H0.out)
    rw [HF.out.2.2.1] at hres
    have HRES := ld hres
    have HG := ld (HF.out.1.trans hgW)
    clear hcall hg1 hg3 hgW v0 v1 v2 v3 v4 v5 v6 v7 v8 v9 v10 v11 i0 i1 i2 i3 i4 i5 i6 i7 i8 i9 i10 i11 hfb hres
    refine ld ?_
    go_wp2_with (with_reducible refine hold_st 4 ?_)
    refine ld ?_
    refine sg hrw ?_
    intro w7 hh7 hg7
    go_wp2
    (try simp only [Exit.inBlock, Exit.then])
    refine br hh7 Tryz.underlying46 ?_
    rw [HRES.out]
    exact ⟨rfl, HG.out.andThen hg7 (fun j e => .inl (by cases e; exact Nat.le_refl _))⟩
  ·have e : t = n := by omega
   subst e
   have HF := ld (And.intro q1 q2)
   clear HQ q1 q2
   go_wp2_with (with_reducible refine hold_st 4 ?_)
   refine ld ?_
   refine sg hrb ?_
   intro w7 hh7 hg7
   go_wp2
   (try simp only [Exit.inBlock, Exit.then])
   refine br hh7 Tryz.underlying46 ?_
   have h9 := HF.out.2
   rw [List.take_of_length_le (by rw [← HN.out]; exact Nat.le_refl _)] at h9
   rw [h9]
   exact ⟨rfl, HF.out.1.andThen hg7 (fun j e => .inl (by cases e; exact Nat.le_refl _))⟩
namespace Wl
section
variable {P : Program} {ops : Array Oper} {Q : Exit → Act → World → Prop} {md : Region.Mode} {S : World → Prop} {Z : List Nat}
theorem mu (i b : Nat) (key val : Value) (w' : World) {oi : Oper} {f : Nat} {l : Array Bool} {a : Act} {w : World} {t : TypeId} {m x v : Operand} (hrun : (Instr.mapUpdate t (.map (some b)) key val).run P w = .ok () w') (hS : S w') (h : wpL P md ops Q S Z f (l.setIfInBounds i true) a w')
  (hi : ops[i]? = some oi := by exact rfl) (hop : oi.op = Op.mapUpdate t m x v := by exact rfl) (hm : a.eval m = .map (some b) := by exact rfl) (hx : a.eval x = key := by exact rfl) (hv : a.eval v = val := by exact rfl)
  (hy : (Region.ready md ops l == [i] && oi.dst == none && Region.wanted oi (yielded ops a.tmps)) = true := by kernel_rfl) : wpL P md ops Q S Z (f + 1) l a w := by
 simp only [Bool.and_eq_true] at hy
 obtain ⟨⟨h1, h2⟩, h3⟩ := hy
 refine wpL_one (eq_of_beq h1) (wpOp_skip hi (eq_of_beq h2) h3 ?_ ⟨fun _ => hS, h⟩)
 simp [execOp, hop, hm, hx, hv, hrun, Result.andThen]
theorem dl (i b : Nat) (key : Value) (w' : World) {oi : Oper} {f : Nat} {l : Array Bool} {a : Act} {w : World} {ats : Array TypeId} {m x : Operand} (hrun : ∀ ty, (Builtin.delete_ ats ty #[.map (some b), key]).run P w = .ok (.tuple #[]) w') (hS : S w') (h : wpL P md ops Q S Z f (l.setIfInBounds i true) a w')
  (hi : ops[i]? = some oi := by exact rfl) (hop : oi.op = Op.call { callee := .builtin .delete, args := #[m, x], argTypes := ats } := by exact rfl) (hm : a.eval m = .map (some b) := by exact rfl) (hx : a.eval x = key := by exact rfl)
  (hy : (Region.ready md ops l == [i] && oi.dst == none && Region.wanted oi (yielded ops a.tmps)) = true := by kernel_rfl) : wpL P md ops Q S Z (f + 1) l a w := by
 simp only [Bool.and_eq_true] at hy
 obtain ⟨⟨h1, h2⟩, h3⟩ := hy
 have hr : (execOp a.eval oi).run P w = .ok (.value (.tuple #[])) w' := by simp [execOp, hop, hm, hx, hrun, resolve, invoke, builtin, Result.andThen]
 refine wpL_one (eq_of_beq h1) (wpOp_now hi h3 (fun K' hK => ?_))
 unfold Oper.wp
 rw [hr, Oper.upon_value]
 refine hK _ _ ?_
 rw [eq_of_beq h2]
 exact ⟨fun _ => hS, h⟩
end
end Wl
def entV (V : List (List UInt8 × Ty.T)) (l : List Gram.Var) : List (List UInt8 × Ty.T) := l.foldl (fun a v => (v.name, Ty.vT v) :: a) V
def leaV (V : List (List UInt8 × Ty.T)) (l : List Gram.Var) : List (List UInt8 × Ty.T) := l.foldl (fun a v => a.filter fun x => x.1 != v.name) V
theorem entV_app (V : List (List UInt8 × Ty.T)) (l m : List Gram.Var) : entV V (l ++ m) = entV (entV V l) m := by simp [entV, List.foldl_append]
theorem leaV_app (V : List (List UInt8 × Ty.T)) (l m : List Gram.Var) : leaV V (l ++ m) = leaV (leaV V l) m := by simp [leaV, List.foldl_append]
theorem entV_one (V : List (List UInt8 × Ty.T)) (l : List Gram.Var) (u : Nat) (v : Gram.Var) (h : l[u]? = some v) : entV V (l.take (u + 1)) = (v.name, Ty.vT v) :: entV V (l.take u) := by
 rw [List.take_add_one, h, entV_app]; rfl
theorem leaV_one (V : List (List UInt8 × Ty.T)) (l : List Gram.Var) (u : Nat) (v : Gram.Var) (h : l[u]? = some v) : leaV V (l.take (u + 1)) = (leaV V (l.take u)).filter fun x => x.1 != v.name := by
 rw [List.take_add_one, h, leaV_app]; rfl
theorem flat_one (LL : List (List Gram.Var)) (t : Nat) (l : List Gram.Var) (h : LL[t]? = some l) : (LL.take (t + 1)).flatten = (LL.take t).flatten ++ l := by
 rw [List.take_add_one, h]; simp
theorem flat_le (LL : List (List Gram.Var)) (t : Nat) : (LL.take t).flatten.length ≤ LL.flatten.length := by
 conv => rhs; rw [← List.take_append_drop t LL]
 rw [List.flatten_append, List.length_append]; omega
namespace Ty
def fineV (v : Gram.Var) : Bool := Nam.short v.name && wfB v.tk && wfB v.tl && decide (0 ≤ v.tl) && v.clock.all (fun g => Nam.short g.name)
end Ty
theorem fineV_wf {v : Gram.Var} (h : Ty.fineV v = true) : Nam.short v.name = true ∧ wfT (Ty.vT v) ∧ ∀ g ∈ v.clock, Nam.short g.name = true := by
 unfold Ty.fineV at h
 simp only [Bool.and_eq_true, decide_eq_true_eq, List.all_eq_true] at h
 obtain ⟨⟨⟨⟨h1, h2⟩, h3⟩, h4⟩, h5⟩ := h
 exact ⟨h1, ⟨h2, h3, h4⟩, h5⟩
section
variable {w0 w w' : World} {A : Aa} {N : List (List UInt8 × (Gram.Node × Nv))} {V : List (List UInt8 × Ty.T)} {cnt : Nat}
theorem Ak.vput (h : Ak w0 w A N V cnt) (hg : w.grownBy w' (some A.vb)) {V' : List (List UInt8 × Ty.T)} {cnt' : Nat} (hv : HMap w' A.vb cnt' (V'.map fun x => (x.1, tyv x.2))) (hw : ∀ x ∈ V', wfT x.2) : Ak w0 w' A N V' cnt' := by
 obtain ⟨n, hn⟩ := h.nn
 have hne := h.ne
 simp only [List.mem_cons, List.not_mem_nil, or_false, not_or] at hne
 exact ⟨h.base.andThen hg (fun j e => .inl (by cases e; exact h.lo.2.2.2)), h.lo, h.ne, (hg.block _ (gl h.cc) (by simpa using Ne.symm hne.1)).trans h.cc, (hg.block _ (gl h.rr) (by simpa using Ne.symm hne.2.1)).trans h.rr, ⟨n, hn.kept hg (by simpa using Ne.symm hne.2.2)⟩, hv, h.hN, hw⟩
theorem Ak.put (h : Ak w0 w A N V cnt) (hc : cnt < maxLen) (s : List UInt8) (hs : Nam.short s = true) (t : Ty.T) (ht : wfT t) :
  ∃ w', (Instr.mapUpdate 67 (.map (some A.vb)) (.string ⟨s.toArray⟩) (.agg #[.int .i64 t.1, .int .i64 t.2])).run Tryz.prog w = .ok () w' ∧ Ak w0 w' A N ((s, t) :: V) (cnt + 1) ∧ w.grownBy w' (some A.vb) := by
 obtain ⟨w', hr, hm, hg⟩ := h.vv.put Tryz.underlying67 hc s hs (tyv t)
 refine ⟨w', hr, h.vput hg hm ?_, hg⟩
 intro x hx
 rcases List.mem_cons.1 hx with rfl | hx
 ·exact ht
 ·exact h.hV x hx
theorem Ak.del (h : Ak w0 w A N V cnt) (s : List UInt8) (hs : Nam.short s = true) :
  ∃ w', (∀ ty, (Builtin.delete_ #[67, 9] ty #[.map (some A.vb), .string ⟨s.toArray⟩]).run Tryz.prog w = .ok (.tuple #[]) w') ∧ Ak w0 w' A N (V.filter fun x => x.1 != s) cnt ∧ w.grownBy w' (some A.vb) := by
 obtain ⟨w', hr, hm, hg⟩ := h.vv.del Tryz.underlying67 s hs 0
 refine ⟨w', fun _ => hr, h.vput hg ?_ (fun x hx => h.hV x (List.mem_filter.1 hx).1), hg⟩
 rw [List.filter_map] at hm
 exact hm
end
def slv (r : Option Addr × Nat × Nat) : Value := .slice r.1 r.2.1 r.2.2
structure VL (w0 w : World) (lb : Nat) (rows : List (Option Addr × Nat × Nat)) (LL : List (List Gram.Var)) : Prop where
 bl : w.heap[lb]? = some (.cells (rows.map slv).toArray 41 (0, 0))
 len : LL.length = rows.length
 row : ∀ (j : Nat) (r : Option Addr × Nat × Nat) (l : List Gram.Var), rows[j]? = some r → LL[j]? = some l → RepC w0 0 [] (.l 60 5 (l.map varD)) (.slice r.1 r.2.1 r.2.2)
theorem VL.kept {w0 w w' : World} {lb : Nat} {rows : List (Option Addr × Nat × Nat)} {LL : List (List Gram.Var)} {r : Option Nat} (h : VL w0 w lb rows LL) (hg : w.grownBy w' r) (hr : some lb ≠ r) : VL w0 w' lb rows LL := ⟨(hg.block _ (gl h.bl) hr).trans h.bl, h.len, h.row⟩
theorem VL.cell {w0 w : World} {lb : Nat} {rows : List (Option Addr × Nat × Nat)} {LL : List (List Gram.Var)} (h : VL w0 w lb rows LL) {t : Nat} {r : Option Addr × Nat × Nat} (hr : rows[t]? = some r) : w.cell? ⟨lb, t, none⟩ = some (.slice r.1 r.2.1 r.2.2) := (cell_of_row _ _ t _ _ _ h.bl).trans (by rw [List.getElem?_toArray, List.getElem?_map, hr]; rfl)
theorem tenter_any {w0 w : World} {A : Aa} {N : List (List UInt8 × (Gram.Node × Nv))} {V : List (List UInt8 × Ty.T)} {cnt : Nat} (hA : Ak w0 w A N V cnt) (lb : Nat) (rows : List (Option Addr × Nat × Nat)) (LL : List (List Gram.Var)) (hb : VL w0 w lb rows LL) (hlb : lb ≠ A.vb) (hf : ∀ l ∈ LL, ∀ v ∈ l, Ty.fineV v = true) (hn : rows.length ≤ 1000000) (hz : LL.flatten.length ≤ 1000000) (hcnt : cnt ≤ 1000000000) :
  Calls Tryz.prog 26 #[.pointer (some ⟨A.c, 0, none⟩), .slice (some ⟨lb, 0, none⟩) rows.length rows.length] w fun e w' => e = .returned (.tuple #[]) ∧ Ak w0 w' A N (entV V LL.flatten) (cnt + LL.flatten.length) ∧ w.grownBy w' (some A.vb) := by
 have hne := hA.ne
 simp only [List.mem_cons, List.not_mem_nil, or_false, not_or] at hne
 obtain ⟨n, hnE⟩ : ∃ n, n = rows.length := ⟨_, rfl⟩
 rw [← hnE] at hn ⊢
 have HA := ld hA
 have HB := ld (And.intro hb (And.intro hlb hne))
 have HF := ld hf
 have HNE := ld hnE
 have HZ := ld (And.intro hz hcnt)
 clear hA hb hlb hf hnE hne hz
 go_enter Tryz.func26, Tryz.ntmps26
 go_wp2
 go_loopw [10] (fun iv wr => ∃ t : Nat, t ≤ n ∧ iv = .int .i64 (t : Int) ∧ Hid (w.grownBy wr (some A.vb) ∧ Ak w0 wr A N (entV V (LL.take t).flatten) (cnt + (LL.take t).flatten.length))) (fun i _ => n - (intOf i).toNat)
 case atStart => exact ⟨0, Nat.zero_le _, rfl, ld ⟨World.grownBy.refl _ _, by simpa [entV] using HA.out⟩⟩
 case round =>
  obtain ⟨t, htn, rfl, HQ⟩ := hrel
  obtain ⟨wo, rfl⟩ : ∃ wo, wo = wr := ⟨_, rfl⟩
  obtain ⟨q1, q2⟩ := HQ.out
  by_cases hlt : t < n
  ·obtain ⟨r, hr⟩ : ∃ r, rows[t]? = some r := ⟨_, List.getElem?_eq_getElem (by rw [← HNE.out]; exact hlt)⟩
   obtain ⟨l, hl⟩ : ∃ l, LL[t]? = some l := ⟨_, List.getElem?_eq_getElem (by rw [HB.out.1.len, ← HNE.out]; exact hlt)⟩
   have hvl := HB.out.1.row t r l hr hl
   have hce := (HB.out.1.kept q1 (by simpa using HB.out.2.1)).cell hr
   have hfl := HF.out l (List.mem_of_getElem? hl)
   have hfo := flat_one LL t l hl
   have hle := flat_le LL (t + 1)
   rw [hfo] at hle
   obtain ⟨ra, rn, rc⟩ := r
   simp only at hvl hce
   obtain ⟨hvn, hvm⟩ := varsLen hvl
   unfold maxLen at hvm
   have HP := ld (And.intro q1 (And.intro q2 (And.intro hfo (And.intro hle (And.intro hvn (And.intro hvl hfl))))))
   clear HQ q1 q2 hr hl hvl hfl hfo hle hvn
   go_wp2
   go_loopw [16] (fun jv wq => ∃ u : Nat, u ≤ rn ∧ jv = .int .i64 (u : Int) ∧ Hid (w.grownBy wq (some A.vb) ∧ Ak w0 wq A N (entV (entV V (LL.take t).flatten) (l.take u)) (cnt + ((LL.take t).flatten.length + u)))) (fun j _ => rn - (intOf j).toNat)
   case atStart => exact ⟨0, Nat.zero_le _, rfl, ld ⟨HP.out.1, by simpa [entV] using HP.out.2.1⟩⟩
   case round =>
    obtain ⟨u, hu, rfl, HS⟩ := hrel
    obtain ⟨s1, s2⟩ := HS.out
    by_cases hlu : u < rn
    ·obtain ⟨v, hv⟩ : ∃ v, l[u]? = some v := ⟨_, List.getElem?_eq_getElem (by rw [← HP.out.2.2.2.2.1]; exact hlu)⟩
     obtain ⟨g, ea, en, ec, rfl, u0, u1, u2, u3, u4, hed⟩ := varAt HP.out.2.2.2.2.2.1 hv
     have hbs := s2.base
     have v0 := hbs.cell u0 (by simp)
     have v1 := hbs.cell u1 (by simp)
     have v2 := hbs.cell u2 (by simp)
     have v3 := hbs.cell u3 (by simp)
     have v4 := hbs.cell u4 (by simp)
     obtain ⟨hs, hw, -⟩ := fineV_wf (HP.out.2.2.2.2.2.2 v (List.mem_of_getElem? hv))
     have hone := entV_one (entV V (LL.take t).flatten) l u v hv
     cases v with
     | mk vn vk vl cl va =>
     simp only [Ty.vT] at v0 v1 v2 v3 v4 hs hw hone
     have hlc := HB.out.2.2.1
     have hvs := s2.lt.2.2.2
     obtain ⟨W1, hW1⟩ : ∃ W1, W1 = wr.alloc (.cells #[.string ⟨vn.toArray⟩, .int .i64 vk, .int .i64 vl, .slice ea en ec, .int .i64 va] 60 (0, 0)) := ⟨_, rfl⟩
     have hga : wr.grownBy W1 none := by rw [hW1]; exact ga wr _ none
     have hvb : W1.heap[wr.heap.size]? = some (.cells #[.string ⟨vn.toArray⟩, .int .i64 vk, .int .i64 vl, .slice ea en ec, .int .i64 va] 60 (0, 0)) := by rw [hW1]; exact heap_alloc_new wr _
     have hA1 := (s2.kept hga).kept (gdrew (World.grownBy.refl W1 none))
     obtain ⟨w4, hrun, hA4, hg4⟩ := hA1.put (by have := HZ.out.1; have := HZ.out.2; have := HP.out.2.2.2.1; have := HP.out.2.2.2.2.1; rw [List.length_append] at *; unfold maxLen; omega) vn hs (vk, vl) hw
     rw [← hone] at hA4
     have hc2 := cell_of_row _ _ 2 _ _ _ (s2.kept hga).cc
     have hc0 := cell_of_row _ _ 0 _ _ _ hvb
     have hc1 := cell_of_row _ _ 1 _ _ _ hvb
     have hc3 := cell_of_row _ _ 2 _ _ _ hvb
     have hS4 : W1.grownBy w4 (some A.vb) := ((World.grownBy.refl W1 (some A.vb)).andThen (gdrew (World.grownBy.refl W1 none)) (fun j e => by cases e)).trans hg4
     have hk1 : some wr.heap.size ≠ some A.vb := by simp; omega
     have hk2 : some A.c ≠ some A.vb := by simpa using Ne.symm hlc
     have HG := ld (And.intro ((s1.andThen hga (fun j e => by cases e)).trans hS4) hA4)
     have HW1 := ld hW1
     clear hW1 HS s1 s2 hv u0 u1 u2 u3 u4 hed hbs hs hw hone hA1 hA4 hg4 hlc hvs hvb hga
     go_wp2
     rw [← HW1.out]
     refine wp_region_L (S := fun V => W1.grownBy V (some A.vb)) (Z := []) (by kernel_rfl) ?_
     have hS : W1.grownBy W1.drew (some A.vb) := (World.grownBy.refl W1 (some A.vb)).andThen (gdrew (World.grownBy.refl W1 none)) (fun j e => by cases e)
     refine Wl.t1 0 20 (.pointer (some ⟨A.c, 0, none⟩)) hS ?_
     (try simp only [Act.put, Wl.sA, Wl.sB, Wl.sC])
     refine Wl.t1 1 21 (.pointer (some ⟨A.c, 0, none⟩)) hS ?_
     (try simp only [Act.put, Wl.sA, Wl.sB, Wl.sC])
     refine Wl.t1 2 22 (.pointer (some ⟨A.c, 2, none⟩)) hS ?_
     (try simp only [Act.put, Wl.sA, Wl.sB, Wl.sC])
     refine Wl.t2 3 23 (.map (some A.vb)) (fun w' hw' => ?_) hS ?_
     ·have z0 := hw'.cell hc2 hk2; clear hw'; go_simp
     (try simp only [Act.put, Wl.sA, Wl.sB, Wl.sC])
     refine Wl.t1 4 24 (.pointer (some ⟨wr.heap.size, 0, none⟩)) hS ?_
     (try simp only [Act.put, Wl.sA, Wl.sB, Wl.sC])
     refine Wl.t2 5 25 (.string ⟨vn.toArray⟩) (fun w' hw' => ?_) hS ?_
     ·have z0 := hw'.cell hc0 hk1; clear hw'; go_simp
     (try simp only [Act.put, Wl.sA, Wl.sB, Wl.sC])
     refine Wl.t1 6 26 (.pointer (some ⟨wr.heap.size, 1, none⟩)) hS ?_
     (try simp only [Act.put, Wl.sA, Wl.sB, Wl.sC])
     refine Wl.t2 7 27 (.agg #[.int .i64 vk, .int .i64 vl]) (fun w' hw' => ?_) hS ?_
     ·have z0 := hw'.cell hc1 hk1; have z1 := hw'.cell hc3 hk1; clear hw'; go_simp
     (try simp only [Act.put, Wl.sA, Wl.sB, Wl.sC])
     refine Wl.mu 8 A.vb _ _ w4 hrun hS4 ?_
     (try simp only [Act.put, Wl.sA, Wl.sB, Wl.sC])
     refine wpL_done (by kernel_rfl) ?_ _
     clear hS hrun hS4 hc0 hc1 hc2 hc3 hk1 hk2 v0 v1 v2 v3 v4
     go_wp2
     exact ⟨⟨u + 1, by omega, by go_num, ld ⟨HG.out.1, HG.out.2⟩⟩, by simp [intOf]; omega⟩
    ·have e : u = rn := by omega
     subst e
     have hs2 := s2
     rw [show l.take u = l from List.take_of_length_le (by rw [← HP.out.2.2.2.2.1]; exact Nat.le_refl _), ← entV_app, ← HP.out.2.2.1, show (LL.take t).flatten.length + u = (LL.take (t + 1)).flatten.length by rw [HP.out.2.2.1, List.length_append, ← HP.out.2.2.2.2.1]] at hs2
     have HG := ld (And.intro s1 hs2)
     clear HS s1 s2 hs2
     go_wp2
     exact ⟨⟨t + 1, by omega, by go_num, ld ⟨HG.out.1, HG.out.2⟩⟩, by simp [intOf]; omega⟩
  ·have e : t = n := by omega
   subst e
   have hq2 := q2
   rw [List.take_of_length_le (by rw [HB.out.1.len, ← HNE.out]; exact Nat.le_refl _)] at hq2
   have HG := ld (And.intro q1 hq2)
   clear HQ q1 q2 hq2
   go_wp2
   go_end0
   exact ⟨rfl, HG.out.2, HG.out.1⟩
theorem tleave_any {w0 w : World} {A : Aa} {N : List (List UInt8 × (Gram.Node × Nv))} {V : List (List UInt8 × Ty.T)} {cnt : Nat} (hA : Ak w0 w A N V cnt) (lb : Nat) (rows : List (Option Addr × Nat × Nat)) (LL : List (List Gram.Var)) (hb : VL w0 w lb rows LL) (hlb : lb ≠ A.vb) (hf : ∀ l ∈ LL, ∀ v ∈ l, Ty.fineV v = true) (hn : rows.length ≤ 1000000) (hz : LL.flatten.length ≤ 1000000) (um : FrameMode) :
  CallsD Tryz.prog 27 #[.pointer (some ⟨A.c, 0, none⟩), .slice (some ⟨lb, 0, none⟩) rows.length rows.length] um w fun e u' w' => u' = um ∧ e = .returned (.tuple #[]) ∧ Ak w0 w' A N (leaV V LL.flatten) (cnt) ∧ w.grownBy w' (some A.vb) := by
 have hne := hA.ne
 simp only [List.mem_cons, List.not_mem_nil, or_false, not_or] at hne
 obtain ⟨n, hnE⟩ : ∃ n, n = rows.length := ⟨_, rfl⟩
 rw [← hnE] at hn ⊢
 have HA := ld hA
 have HB := ld (And.intro hb (And.intro hlb hne))
 have HF := ld hf
 have HNE := ld hnE
 have HZ := ld hz
 clear hA hb hlb hf hnE hne hz
 go_enter_d Tryz.func27, Tryz.ntmps27
 go_wp2
 go_loopw [10] (fun iv wr => ∃ t : Nat, t ≤ n ∧ iv = .int .i64 (t : Int) ∧ Hid (w.grownBy wr (some A.vb) ∧ Ak w0 wr A N (leaV V (LL.take t).flatten) (cnt))) (fun i _ => n - (intOf i).toNat)
 case atStart => exact ⟨0, Nat.zero_le _, rfl, ld ⟨World.grownBy.refl _ _, by simpa [leaV] using HA.out⟩⟩
 case round =>
  obtain ⟨t, htn, rfl, HQ⟩ := hrel
  obtain ⟨wo, rfl⟩ : ∃ wo, wo = wr := ⟨_, rfl⟩
  obtain ⟨q1, q2⟩ := HQ.out
  by_cases hlt : t < n
  ·obtain ⟨r, hr⟩ : ∃ r, rows[t]? = some r := ⟨_, List.getElem?_eq_getElem (by rw [← HNE.out]; exact hlt)⟩
   obtain ⟨l, hl⟩ : ∃ l, LL[t]? = some l := ⟨_, List.getElem?_eq_getElem (by rw [HB.out.1.len, ← HNE.out]; exact hlt)⟩
   have hvl := HB.out.1.row t r l hr hl
   have hce := (HB.out.1.kept q1 (by simpa using HB.out.2.1)).cell hr
   have hfl := HF.out l (List.mem_of_getElem? hl)
   have hfo := flat_one LL t l hl
   have hle := flat_le LL (t + 1)
   rw [hfo] at hle
   obtain ⟨ra, rn, rc⟩ := r
   simp only at hvl hce
   obtain ⟨hvn, hvm⟩ := varsLen hvl
   unfold maxLen at hvm
   have HP := ld (And.intro q1 (And.intro q2 (And.intro hfo (And.intro hle (And.intro hvn (And.intro hvl hfl))))))
   clear HQ q1 q2 hr hl hvl hfl hfo hle hvn
   go_wp2
   go_loopw [16] (fun jv wq => ∃ u : Nat, u ≤ rn ∧ jv = .int .i64 (u : Int) ∧ Hid (w.grownBy wq (some A.vb) ∧ Ak w0 wq A N (leaV (leaV V (LL.take t).flatten) (l.take u)) (cnt))) (fun j _ => rn - (intOf j).toNat)
   case atStart => exact ⟨0, Nat.zero_le _, rfl, ld ⟨HP.out.1, by simpa [leaV] using HP.out.2.1⟩⟩
   case round =>
    obtain ⟨u, hu, rfl, HS⟩ := hrel
    obtain ⟨s1, s2⟩ := HS.out
    by_cases hlu : u < rn
    ·obtain ⟨v, hv⟩ : ∃ v, l[u]? = some v := ⟨_, List.getElem?_eq_getElem (by rw [← HP.out.2.2.2.2.1]; exact hlu)⟩
     obtain ⟨g, ea, en, ec, rfl, u0, u1, u2, u3, u4, hed⟩ := varAt HP.out.2.2.2.2.2.1 hv
     have hbs := s2.base
     have v0 := hbs.cell u0 (by simp)
     have v1 := hbs.cell u1 (by simp)
     have v2 := hbs.cell u2 (by simp)
     have v3 := hbs.cell u3 (by simp)
     have v4 := hbs.cell u4 (by simp)
     obtain ⟨hs, hw, -⟩ := fineV_wf (HP.out.2.2.2.2.2.2 v (List.mem_of_getElem? hv))
     have hone := leaV_one (leaV V (LL.take t).flatten) l u v hv
     cases v with
     | mk vn vk vl cl va =>
     simp only [Ty.vT] at v0 v1 v2 v3 v4 hs hw hone
     have hlc := HB.out.2.2.1
     have hvs := s2.lt.2.2.2
     obtain ⟨W1, hW1⟩ : ∃ W1, W1 = wr.alloc (.cells #[.string ⟨vn.toArray⟩, .int .i64 vk, .int .i64 vl, .slice ea en ec, .int .i64 va] 60 (0, 0)) := ⟨_, rfl⟩
     have hga : wr.grownBy W1 none := by rw [hW1]; exact ga wr _ none
     have hvb : W1.heap[wr.heap.size]? = some (.cells #[.string ⟨vn.toArray⟩, .int .i64 vk, .int .i64 vl, .slice ea en ec, .int .i64 va] 60 (0, 0)) := by rw [hW1]; exact heap_alloc_new wr _
     have hA1 := (s2.kept hga).kept (gdrew (World.grownBy.refl W1 none))
     obtain ⟨w4, hrun, hA4, hg4⟩ := hA1.del vn hs
     rw [← hone] at hA4
     have hc2 := cell_of_row _ _ 2 _ _ _ (s2.kept hga).cc
     have hc0 := cell_of_row _ _ 0 _ _ _ hvb
     have hc1 := cell_of_row _ _ 1 _ _ _ hvb
     have hc3 := cell_of_row _ _ 2 _ _ _ hvb
     have hS4 : W1.grownBy w4 (some A.vb) := ((World.grownBy.refl W1 (some A.vb)).andThen (gdrew (World.grownBy.refl W1 none)) (fun j e => by cases e)).trans hg4
     have hk1 : some wr.heap.size ≠ some A.vb := by simp; omega
     have hk2 : some A.c ≠ some A.vb := by simpa using Ne.symm hlc
     have HG := ld (And.intro ((s1.andThen hga (fun j e => by cases e)).trans hS4) hA4)
     have HW1 := ld hW1
     clear hW1 HS s1 s2 hv u0 u1 u2 u3 u4 hed hbs hs hw hone hA1 hA4 hg4 hlc hvs hvb hga
     go_wp2
     rw [← HW1.out]
     refine wp_region_L (S := fun V => W1.grownBy V (some A.vb)) (Z := []) (by kernel_rfl) ?_
     have hS : W1.grownBy W1.drew (some A.vb) := (World.grownBy.refl W1 (some A.vb)).andThen (gdrew (World.grownBy.refl W1 none)) (fun j e => by cases e)
     refine Wl.t1 0 20 (.pointer (some ⟨A.c, 0, none⟩)) hS ?_
     (try simp only [Act.put, Wl.sA, Wl.sB, Wl.sC])
     refine Wl.t1 1 21 (.pointer (some ⟨A.c, 0, none⟩)) hS ?_
     (try simp only [Act.put, Wl.sA, Wl.sB, Wl.sC])
     refine Wl.t1 2 22 (.pointer (some ⟨A.c, 2, none⟩)) hS ?_
     (try simp only [Act.put, Wl.sA, Wl.sB, Wl.sC])
     refine Wl.t2 3 23 (.map (some A.vb)) (fun w' hw' => ?_) hS ?_
     ·have z0 := hw'.cell hc2 hk2; clear hw'; go_simp
     (try simp only [Act.put, Wl.sA, Wl.sB, Wl.sC])
     refine Wl.t1 4 24 (.pointer (some ⟨wr.heap.size, 0, none⟩)) hS ?_
     (try simp only [Act.put, Wl.sA, Wl.sB, Wl.sC])
     refine Wl.t2 5 25 (.string ⟨vn.toArray⟩) (fun w' hw' => ?_) hS ?_
     ·have z0 := hw'.cell hc0 hk1; clear hw'; go_simp
     (try simp only [Act.put, Wl.sA, Wl.sB, Wl.sC])
     refine Wl.dl 6 A.vb _ w4 hrun hS4 ?_
     (try simp only [Act.put, Wl.sA, Wl.sB, Wl.sC])
     refine wpL_done (by kernel_rfl) ?_ _
     clear hS hrun hS4 hc0 hc1 hc2 hc3 hk1 hk2 v0 v1 v2 v3 v4
     go_wp2
     exact ⟨⟨u + 1, by omega, by go_num, ld ⟨HG.out.1, HG.out.2⟩⟩, by simp [intOf]; omega⟩
    ·have e : u = rn := by omega
     subst e
     have hs2 := s2
     rw [show l.take u = l from List.take_of_length_le (by rw [← HP.out.2.2.2.2.1]; exact Nat.le_refl _), ← leaV_app, ← HP.out.2.2.1] at hs2
     have HG := ld (And.intro s1 hs2)
     clear HS s1 s2 hs2
     go_wp2
     exact ⟨⟨t + 1, by omega, by go_num, ld ⟨HG.out.1, HG.out.2⟩⟩, by simp [intOf]; omega⟩
  ·have e : t = n := by omega
   subst e
   have hq2 := q2
   rw [List.take_of_length_le (by rw [HB.out.1.len, ← HNE.out]; exact Nat.le_refl _)] at hq2
   have HG := ld (And.intro q1 hq2)
   clear HQ q1 q2 hq2
   go_wp2
   go_end0
   exact ⟨rfl, HG.out.2, HG.out.1⟩
end Go.Proofs.YtbbamgjdnibldaaGreat
