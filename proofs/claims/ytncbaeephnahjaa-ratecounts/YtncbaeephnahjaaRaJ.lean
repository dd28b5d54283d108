/- rate.each, whatever is called at each beat. -/
import Derived.Test.YtncbaeephnahjaaRaI
namespace Go.Proofs.Ytncbaeephnahjaa
open Go.RowKit Go.Maps Go.WideMaps Go.Shelf
open Rat (at_ swp per off okL St firsts)
attribute [local go_sem] Oper.semAt_some

theorem makeFunc_run (fn : Fn) (args cap : Array Value) (w : World) : (Instr.makeFunc fn args cap).run Try.prog w = .ok (.func fn args cap) w := by rfl

theorem beats_any (la : Option Addr) (n lc : Nat) (base : Int) (w : World) : Calls Try.prog 22 #[.slice la n lc, .int .i64 base] w fun e w' => e = .returned (.func (.func 23) #[] #[.pointer (some ⟨w.heap.size, 0, none⟩), .pointer (some ⟨w.heap.size + 1, 0, none⟩)]) ∧ w' = (w.alloc (.cells #[.slice la n lc] 22)).alloc (.cells #[.int .i64 base] 3) := by
  go_enter Try.func22, Try.ntmps22
  go_wp2
  go_ret
  exact ⟨rfl, rfl⟩

theorem below_above {n : Nat} {A B : World} (h : Below n A B) {k : Nat} {o : Obj} (hk : A.heap[k]? = some o) (hn : k < n) : B.heap[k]? = some o := (h.block k hn).trans hk

set_option maxRecDepth 100000 in
set_option maxHeartbeats 2000000 in
theorem each_any (f : Nat) (recv : Value) (l : List (Nat × Nat)) (base : Nat) (la : Option Addr) (lc : Nat) (w : World) (hl : okL l base) (hb : base ≤ 5000) (hen : ∀ args w, (callFunc f args).run Try.prog w = .ok (.enter f args) w)
    (I : List Nat → World → Prop) (hIB : ∀ s A B, I s A → Below w.heap.size A B → I s B) (hIP : ∀ s A, I s A → PairsAt A la l) (h0 : I [] w)
    (hon : ∀ pre x W, I pre W → Rat.Pf l base (pre ++ [x]) → Calls Try.prog f #[recv, .int .i64 ((x / 64 : Nat) : Int), .int .i64 ((x % 64 : Nat) : Int)] W fun e W' => (∃ u, e = .returned u) ∧ I (pre ++ [x]) W' ∧ Above w.heap.size W W') :
    Calls Try.prog 16 #[.slice la l.length lc, .int .i64 (base : Int), .func (.func f) #[recv] #[]] w fun e w' => e = .returned (.tuple #[]) ∧ ∃ xs, Rat.Dn_ l base xs ∧ I xs w' := by
  have hpt := beats_any la l.length lc base
  have hsq := fun W => beats_seq 8 l base (w.heap.size + 1) (w.heap.size + 1 + 1) la lc W hl hb
  have HSQ := Lib.hid hsq
  have HON := Lib.hid hon
  have HIB := Lib.hid hIB
  have HIP := Lib.hid hIP
  have H0 := Lib.hid h0
  clear hsq hon hIB hIP h0 hl
  refine (callsIn_wide (n := 9)).1 ?_
  refine callsIn_of_wp_marks Try.func16 rfl trivial ?_ rfl
  simp only [Try.ntmps16, List.size_toArray, List.length_cons, List.length_nil, Nat.reduceAdd, Nat.reduceSub, Array.replicate_succ, Array.replicate_zero, List.push_toArray, List.append_toArray, List.nil_append, List.cons_append]
  gi_wp2_with (refine ⟨trivial, ?_⟩; gi_at_call 22; refine (callsIn_wide.2 (hpt _)).mono ?_; rintro e w1 ⟨rfl, rfl⟩; refine Hid.out ?_)
  obtain ⟨W0, hW0⟩ : ∃ W0, W0 = ((w.alloc (.cells #[.func (.func f) #[recv] #[]] 46)).alloc (.cells #[.slice la l.length lc] 22)).alloc (.cells #[.int .i64 (base : Int)] 3) := ⟨_, rfl⟩
  have hg0 : w.grownBy W0 none := by rw [hW0]; exact gtrans (gtrans (World.grownBy_alloc w _ none) (World.grownBy_alloc _ _ none)) (World.grownBy_alloc _ _ none)
  have hsz : W0.heap.size = w.heap.size + 1 + 1 + 1 := by rw [hW0]; simp
  have hr0 : W0.heap[w.heap.size]? = some (.cells #[.func (.func f) #[recv] #[]] 46 (0, 0)) := by
    rw [hW0]
    exact (heap_alloc_old _ _ (by simp; omega)).trans ((heap_alloc_old _ _ (by simp)).trans (heap_alloc_new w _))
  have hr1 : W0.heap[w.heap.size + 1]? = some (.cells #[.slice la l.length lc] 22 (0, 0)) := by
    rw [hW0]
    have e := heap_alloc_new (w.alloc (.cells #[.func (.func f) #[recv] #[]] 46)) (.cells #[.slice la l.length lc] 22)
    rw [World.size_alloc] at e
    exact (heap_alloc_old _ _ (by simp)).trans e
  have hr2 : W0.heap[w.heap.size + 1 + 1]? = some (.cells #[.int .i64 (base : Int)] 3 (0, 0)) := by
    rw [hW0]
    have e := heap_alloc_new ((w.alloc (.cells #[.func (.func f) #[recv] #[]] 46)).alloc (.cells #[.slice la l.length lc] 22)) (.cells #[.int .i64 (base : Int)] 3)
    rw [World.size_alloc, World.size_alloc] at e
    exact e
  (try simp only [World.size_alloc])
  rw [← hW0]
  refine Lib.hid ?_
  clear hW0 hpt
  gi_wp2
  refine wpIn_rangeFunc_w (by omega) (gf := 23) (lb := #[.pointer (some ⟨w.heap.size + 1, 0, none⟩), .pointer (some ⟨w.heap.size + 1 + 1, 0, none⟩)]) rfl (enters_of Try.func23 (by kernel_rfl) rfl) (HSQ.out W0) (Below.refl _ _) (fun _ => rfl)
    (fun pre W => I pre W ∧ W.heap[w.heap.size]? = some (.cells #[.func (.func f) #[recv] #[]] 46 (0, 0)) ∧ W.heap[w.heap.size + 1]? = some (.cells #[.slice la l.length lc] 22 (0, 0)) ∧ W.heap[w.heap.size + 1 + 1]? = some (.cells #[.int .i64 (base : Int)] 3 (0, 0)))
    (fun s A h => ⟨h.2.2.1, h.2.2.2, HIP.out s A h.1⟩)
    (fun s A B h hbl => ⟨HIB.out s A B h.1 (hbl.mono (by omega)), below_above hbl h.2.1 (by omega), below_above hbl h.2.2.1 (by omega), below_above hbl h.2.2.2 (by omega)⟩)
    ⟨HIB.out _ _ _ H0.out (below_of hg0 (Nat.le_refl _) (by simp)), hr0, hr1, hr2⟩
    (fun x => { tmps := #[.slice la l.length lc, .int .i64 (base : Int), .func (.func f) #[recv] #[], undef, undef, .pointer (some ⟨w.heap.size, 0, none⟩), .int .i64 ((x / 64 : Nat) : Int), .int .i64 ((x % 64 : Nat) : Int), .slice la l.length lc, .int .i64 (base : Int), .func (.func 23) #[] #[.pointer (some ⟨w.heap.size + 1, 0, none⟩), .pointer (some ⟨w.heap.size + 1 + 1, 0, none⟩)], .int .i64 ((x / 64 : Nat) : Int), .int .i64 ((x % 64 : Nat) : Int), undef, undef, undef, undef], defers := [] })
    ?assign ?body ?done
  case assign =>
    intro l1 x W K hK
    simp only [encB]
    generalize ((x / 64 : Nat) : Int) = t at *
    generalize ((x % 64 : Nat) : Int) = p at *
    simp
    gi_wp2
    exact hK
  case body =>
    rintro l1 pre x W ⟨h1, h2, h3, h4⟩ hpf
    have hc := HON.out pre x W h1 hpf
    have c0 := cell_of_row _ _ 0 _ _ _ h2
    have HF := Lib.hid (And.intro h2 (And.intro h3 h4))
    clear h1 h2 h3 h4 hpf
    generalize ((x / 64 : Nat) : Int) = t at *
    generalize ((x % 64 : Nat) : Int) = p at *
    gi_wp2_with fail
    refine ⟨trivial, (CallsIn.inRound l1 (callsIn_wide.2 hc)).mono ?_⟩
    rintro e W' ⟨⟨u, rfl⟩, hI', hA'⟩
    clear hc
    have HF2 := Lib.hid (And.intro hI' hA')
    clear hI' hA'
    gi_wp2
    exact ⟨HF2.out.2.mono (by omega), HF2.out.1, HF2.out.2.at HF.out.1 (Nat.le_refl _), HF2.out.2.at HF.out.2.1 (by omega), HF2.out.2.at HF.out.2.2 (by omega)⟩
  case done =>
    rintro D xs W hD hS ⟨h1, h2, h3, h4⟩ hK
    have hgp := grownBy_putObj' W D (.deferred none)
    have hI2 := HIB.out _ _ _ h1 (below_of hgp (by have := gl hK; omega) (fun k e => by cases e; omega))
    have HS := Lib.hid (And.intro hS hI2)
    clear hgp h2 h3 h4 h1 hS hI2
    gi_wp2
    refine ⟨by simp, .inl ⟨_, _, rfl, run_takeDeferred hK, ?_⟩⟩
    generalize (W.putObj D (.deferred none)) = Wz at HS ⊢
    simp [LeavesInM, LeavesIn, results, Try.results16, go_sem]
    exact ⟨xs, HS.out.1, HS.out.2⟩
end Go.Proofs.Ytncbaeephnahjaa
