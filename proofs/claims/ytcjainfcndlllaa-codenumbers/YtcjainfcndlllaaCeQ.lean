/- Stage 19: metronomeref19.number (written by mkceq.py). -/
import Derived.Test.YtcjainfcndlllaaCeO
namespace Go.Proofs.Ytcjainfcndlllaa
open Go.RowKit Go.Maps Go.WideMaps

theorem info_u8 : (Try.prog.info? 5).map (fun i => (i.zero, i.size, i.bytes)) = some (some (.int .u8 0), 1, 1) := by kernel_rfl
/-- one's own memory written, behind what was there at first -/
theorem grown_over {w w2 w3 : World} {row : Option Nat} (h : w.grownBy w2 none) (g : w2.grownBy w3 row) (hr : ∀ k, row = some k → w.heap.size ≤ k) : w.grownBy w3 none := by
  refine ⟨g.os.trans h.os, g.tape.trans h.tape, g.output.trans h.output, Nat.le_trans h.size g.size, fun j hj _ => ?_⟩
  have h2 := h.size
  rw [g.block j (by omega) (fun e => by have := hr _ e.symm; omega), h.block j hj (by simp)]

end Go.Proofs.Ytcjainfcndlllaa
