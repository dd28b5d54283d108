/- show's printer: items, nodes; a new printer; Exp at a literal. -/
import Derived.Test.YtachmiajldeakaaGreatDoorShM
import Derived.Deep.WholeRow
import Derived.Laws.EntriesVeiled
namespace Go.Proofs.YtachmiajldeakaaGreatDoor
open Go.RowKit Go.Maps Go.WideMaps

set_option maxHeartbeats 4000000 in
theorem items_one (w0 : World) (B0 b : Nat) (l : List UInt8) (c : UInt8) (g1 cap1 g cap : Nat) (x : Gram.Exp) (t : List UInt8) (ka : Option Addr) (kn kc : Nat) (sa : Option Addr) (sc : Nat) (at_ : Int) (w : World) (h : Pr w0.heap.size b l w) (hw : w0.grownBy w none) (hn : w0.cell? ⟨g, 0, none⟩ = some (.string ⟨#[c]⟩)) (hr : RepRow w0 B0 [] (expD x) (expCells x (.slice ka kn kc))) (p : Prints w0 B0 b x t) (hlen : l.length + t.length ≤ 70000)
    (hi : ∀ j u, (itemC g cap x (.slice ka kn kc) sa sc at_)[j]? = some u → w0.cell? ⟨g1, j, none⟩ = some u) :
    Calls Tryz.prog 43 #[.pointer (some ⟨b, 0, none⟩), .int .i64 1, .slice (some ⟨g1, 0, none⟩) 1 cap1] w fun e w' => e = .returned (.tuple #[]) ∧ Pr w0.heap.size b (l ++ (32 :: c :: 32 :: 61 :: 32 :: (t ++ [59, 10]))) w' ∧ Kb w0.heap.size b w w' := by
  have hE := fun (W : World) (hg : w.grownBy W none) => equation_one w0 B0 b l c g cap x t ka kn kc sa sc at_ W (h.grown hg) (hw.trans hg) hn hr p hlen
  have HE := Lib.hid hE
  clear hE hr p hn
  obtain ⟨f, s, nm, tk, tl, n, m, ks, xa⟩ := x
  simp only [itemC, expCells, List.cons_append, List.nil_append] at hi HE
  have v0 := hw.cell (hi 0 _ rfl) (by simp)
  have v1 := hw.cell (hi 1 _ rfl) (by simp)
  have v2 := hw.cell (hi 2 _ rfl) (by simp)
  have v3 := hw.cell (hi 3 _ rfl) (by simp)
  have v4 := hw.cell (hi 4 _ rfl) (by simp)
  have v5 := hw.cell (hi 5 _ rfl) (by simp)
  have v6 := hw.cell (hi 6 _ rfl) (by simp)
  have v7 := hw.cell (hi 7 _ rfl) (by simp)
  have v8 := hw.cell (hi 8 _ rfl) (by simp)
  have v9 := hw.cell (hi 9 _ rfl) (by simp)
  have v10 := hw.cell (hi 10 _ rfl) (by simp)
  have v11 := hw.cell (hi 11 _ rfl) (by simp)
  clear hi
  go_enter Tryz.func43, Tryz.ntmps43
  go_wp2
  go_loopw [10] (fun iv wr => (iv = .int .i64 0 ∧ wr = w) ∨ (iv = .int .i64 1 ∧ Hid (Pr w0.heap.size b (l ++ (32 :: c :: 32 :: 61 :: 32 :: (t ++ [59, 10]))) wr ∧ Kb w0.heap.size b w wr))) (fun i _ => 1 - (intOf i).toNat)
  case atStart => exact .inl ⟨rfl, rfl⟩
  case round =>
    rcases hrel with ⟨rfl, hwr⟩ | ⟨rfl, H⟩
    · obtain rfl := hwr.symm
      go_wp2_with (go_at_call 88; refine (HE.out _ (World.grownBy_alloc w _ none)).mono ?_; rintro e w1 ⟨rfl, h1, k1⟩; refine Hid.out ?_)
      have HF := Lib.hid (And.intro h1 (((Kb.refl _ b w).alloc hw.size _).trans k1))
      clear h1 k1 v0 v1 v2 v3 v4 v5 v6 v7 v8 v9 v10 v11
      refine Lib.hid ?_
      go_wp2
      exact ⟨.inr ⟨rfl, Lib.hid HF.out⟩, by simp [intOf]⟩
    · clear v0 v1 v2 v3 v4 v5 v6 v7 v8 v9 v10 v11
      go_wp2
      go_end0
      exact ⟨rfl, H.out⟩

theorem locals_none (b : Nat) (la : Option Addr) (lc : Nat) (w : World) : Calls Tryz.prog 42 #[.pointer (some ⟨b, 0, none⟩), .int .i64 0, .slice la 0 lc] w fun e w' => e = .returned (.tuple #[]) ∧ w' = w := by
  go_enter Tryz.func42, Tryz.ntmps42
  go_wp2
  exact bodyPost_ret (results_none rfl _ _ _) rfl ⟨rfl, rfl⟩

/-- A whole array stored into the block that was made last. -/
theorem store_last {P : Program} {w1 : World} {ops : Array Oper} {rest : List Oper} {d : Option Tmp} {p v : Operand} {t ty : TypeId} {s : String} {af : Array Edge} {a : Act} {Q : Exit → Act → World → Prop} {c : Array Value}
    (c' : Array Value) (hp : a.eval p = .pointer (some ⟨w1.heap.size, 0, none⟩)) (hv : a.eval v = .agg c') (hi : (P.info? t).map (·.size) = some c'.size) (ho : c.size = c'.size) (h1 : c'.all (·.oneCell') = true)
    (hK : wpList P ops Q rest (a.put d undef) (w1.alloc (.cells c' t))) :
    wpList P ops Q ({ dst := d, op := Op.store t p v, type := ty, pos := s, after := af, guard := none } :: rest) a (w1.alloc (.cells c t)) := by
  refine wpList_plain rfl fun K hK' => ?_
  unfold Oper.wp
  have hrun := run_storeAt_new (P := P) w1 t c c' hi ho h1
  simp [execOp, hp, hv, hrun, Result.andThen]
  exact hK' _ _ hK
theorem hold_sh {P : Program} {ops : Array Oper} {rest : List Oper} {p v : Operand} {t ty : TypeId} {s : String} {af : Array Edge} {g : Option (Nat × Bool)} {a : Act} {w : World} {Q : Exit → Act → World → Prop}
    (hK : Hid (wpList P ops Q ({ dst := none, op := Op.store t p v, type := ty, pos := s, after := af, guard := g } :: rest) a w)) :
    wpList P ops Q ({ dst := none, op := Op.store t p v, type := ty, pos := s, after := af, guard := g } :: rest) a w := hK

set_option maxHeartbeats 1000000 in
set_option maxRecDepth 100000 in
theorem byForm_any (w : World) : Calls Tryz.prog 26 #[] w fun e w' => e = .returned (.agg formsV.toArray) ∧ ∃ o, w' = w.alloc o := by
  go_enter Tryz.func26, Tryz.ntmps26
  go_wp2_with (with_reducible refine hold_sh ?_)
  refine Lib.hid ?_
  refine store_last formsV.toArray ?hp ?hv ?hi ?ho ?h1 ?hK
  case hp => simp [Act.eval]
  case hv => rfl
  case hi => kernel_rfl
  case ho => rfl
  case h1 => kernel_rfl
  obtain ⟨F, hF⟩ : ∃ F, F = formsV.toArray := ⟨_, rfl⟩
  have hF2 : (Tryz.prog.info? 59).map (·.size) = some F.size := by rw [hF]; kernel_rfl
  rw [← hF]
  have HF := Lib.hid hF
  clear hF
  go_wp2
  (try simp only [Exit.inBlock, Exit.then])
  exact bodyPost_ret (results_cell_row rfl _ _ w.heap.size 59 F (0, 0) _ rfl (heap_alloc_new w _) Tryz.underlying59 rfl hF2) rfl ⟨by rw [HF.out], _, rfl⟩

set_option maxHeartbeats 1000000 in
set_option maxRecDepth 100000 in
theorem newPrinter_any (w : World) : Calls Tryz.prog 12 #[] w fun e w' => e = .returned (.pointer (some ⟨w.heap.size + 1, 0, none⟩)) ∧ Pr w.heap.size (w.heap.size + 1) [] w' ∧ w.grownBy w' none := by
  have hb := byForm_any w
  unfold formsV at hb
  go_enter Tryz.func12, Tryz.ntmps12
  go_wp2_with (go_at_call 26; refine hb.mono ?_; rintro e w' ⟨rfl, o, rfl⟩; refine Hid.out ?_)
  refine Lib.hid ?_
  go_wp2
  go_ret
  refine ⟨rfl, .inl ⟨Nat.le_succ _, .slice none 0 0, ?_, World.ownsRowF_nil _ _ _ _, by simp [Value.ownBlock]⟩, (World.grownBy_alloc w o none).trans (World.grownBy_alloc _ _ none)⟩
  have := heap_alloc_new (w.alloc o) (.cells (Value.pointer none :: Value.slice none 0 0 :: formsV).toArray 61)
  rw [World.size_alloc] at this
  exact this

end Go.Proofs.YtachmiajldeakaaGreatDoor
