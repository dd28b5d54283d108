/- Stage 19: a body of instructions under way; the walk of CodeStacks (written by mkced.py). -/
import Derived.Test.YtcjainfcndlllaaCeC
namespace Go.Proofs.Ytcjainfcndlllaa
open Go.RowKit Go.Maps Go.WideMaps

theorem info_i : (Try.prog.info? 33).map (fun i => (i.zero, i.size, i.bytes)) = some (some (.agg #[.int .i64 0, .int .i64 0, .int .i64 0]), 3, 24) := by kernel_rfl
theorem insC_append (l m : List Cd.Ins) : insC (l ++ m) = insC l ++ insC m := by simp [insC]

/-- code under way: its row in block C, first cells r, its instructions in memory of its own -/
structure Bd (w0 wr : World) (C : Nat) (r : List Value) (v : Value) (body : List Cd.Ins) : Prop where
  row : wr.heap[C]? = some (.cells (r ++ [v]).toArray 25 (0, 0))
  own : wr.ownsRow (C + 1) 33 3 v body.length (insC body)
  gr : w0.grownBy wr none
  le : w0.heap.size ≤ C
theorem Bd.ne {w0 wr : World} {C : Nat} {r : List Value} {v : Value} {body : List Cd.Ins} (h : Bd w0 wr C r v body) : v.ownBlock ≠ some C := by
  intro e
  have := h.own.lt C e
  omega
theorem Bd.form {w0 wr : World} {C : Nat} {r : List Value} {v : Value} {body : List Cd.Ins} (h : Bd w0 wr C r v body) : ∃ a c, v = .slice a body.length c ∧ InssAt wr a body := InssAt.own h.own
/-- something else is laid -/
theorem Bd.alloc {w0 wr : World} {C : Nat} {r : List Value} {v : Value} {body : List Cd.Ins} (h : Bd w0 wr C r v body) (o : Obj) : Bd w0 (wr.alloc o) C r v body :=
  have g := World.grownBy_alloc wr o none
  ⟨(g.block _ (Array.getElem?_eq_some_iff.1 h.row).1 (by simp)).trans h.row, h.own.kept g (by cases hv : v.ownBlock <;> simp), h.gr.trans g, h.le⟩
/-- some instructions more -/
theorem Bd.put {w0 w2 w3 : World} {C : Nat} {r : List Value} {v v' : Value} {body more : List Cd.Ins} (h : Bd w0 w2 C r v body) {m : Nat} (hr : r.length = 6) (hm : m = body.length + more.length) (ho : w3.ownsRow (C + 1) 33 3 v' m (insC body ++ insC more)) (hg : w2.grownBy w3 v.ownBlock) :
    Bd w0 (w3.setCell ⟨C, 6, none⟩ v') C r v' (body ++ more) := by
  subst hm
  have hC : C < w2.heap.size := (Array.getElem?_eq_some_iff.1 h.row).1
  have h3 : w3.heap[C]? = some (.cells (r ++ [v]).toArray 25 (0, 0)) := (hg.block C hC (fun e => h.ne e.symm)).trans h.row
  have gs : w3.grownBy (w3.setCell ⟨C, 6, none⟩ v') (some C) := ⟨rfl, rfl, rfl, by simp [World.setCell], fun k _ hk => Below.heap_setCell _ _ _ _ (fun e => hk (by simp [e]))⟩
  have hne : v'.ownBlock ≠ some C := by
    intro e
    have := ho.lt C e
    omega
  refine ⟨?_, ?_, ?_, h.le⟩
  · have e : (r ++ [v]).set 6 v' = r ++ [v'] := by rw [← hr]; simp
    simp only [World.setCell, Array.getElem?_modify, h3, Option.map_some]
    rw [← e]
    simp
  · rw [List.length_append, insC_append]
    exact ho.kept gs (.inr hne)
  · refine ⟨hg.os.trans h.gr.os, hg.tape.trans h.gr.tape, hg.output.trans h.gr.output, ?_, fun k hk _ => ?_⟩
    · have h1 := h.gr.size
      have h2 := hg.size
      have h4 := gs.size
      omega
    · have hle := h.le
      rw [gs.block k (by have := h.gr.size; have := hg.size; omega) (by simp; omega), hg.block k (by have := h.gr.size; omega) ?_, h.gr.block k hk (by simp)]
      intro e
      cases hv : v.ownBlock with
      | none => rw [hv] at e; cases e
      | some j =>
        rw [hv] at e
        cases e
        have := h.own.lt k hv
        omega

end Go.Proofs.Ytcjainfcndlllaa
