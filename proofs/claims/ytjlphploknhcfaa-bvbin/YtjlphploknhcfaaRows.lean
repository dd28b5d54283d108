/-
  No cell of these rows narrows 'for every input' (looked for: loops, veiled, ifaces, maps, wideKeys, modest, calm, conditions, laid).
  DERIVED. THE GIVEN ROWS OF THIS SEAT. 6 by the template 'for every input the law returns true; each argument reads behind the call as it read before'; 0 by the template 'total and deterministic' (their statements: YtjlphploknhcfaaTotals.lean).
  GIVEN WITH THE SEED: the statements are not yours to turn. If you find one false, say at which input.
  Laid BY PROGRAM, IN A SANDBOX (cutbox-rows.mjs): the forced cells as the released guide's own fill.sh prints them over the translation 5532c30fed3280e7… (all of the seat's roots in one cut). By AI agents, Wed Nov 11 2026. No macro, syntax, notation, axiom, sorry.
-/
import Derived.Test.YtjlphploknhcfaaChecked
import GoSem.Claim
import GoSem.ClaimJoined
import GoSem.ClaimMapViews
import Derived.JoinedTies
import Derived.KernelRfl
namespace Go.Proofs.Ytjlphploknhcfaa
/- THE CELL 'sum', in the pinned program and in every row, IS THE sha256 OF THE DUMP (.gsa) THAT YtjlphploknhcfaaProg.lean LOADS. Nothing in Lean hashes anything: it is a label: what it is worth is what the hold of that sum in a sandbox is worth. -/
noncomputable def Try.pinned : Pinned := { name := "ytjlphploknhcfaa", sum := "5532c30fed3280e7ca83e417b7cdc49711fe9cf4d1c53b43305bf23c477707c9", checked := Try.checked }
namespace Rows
def none {H : Type} : Left H := { results := [], args := [] }

/-- 'metronomelaw1.BvWraps': WHATEVER THE INPUT: true; the input reads as it did. -/
def bvWrapsSpec : ChangeSpec := { name := "bvWraps", fn := fun _ => fun
  | [d1, d2] => { results := [.lit (.bool true)], args := [d1, d2] }
  | _ => none }
def bvWrapsRow : OpenClaim := { program := "ytjlphploknhcfaa", sum := "5532c30fed3280e7ca83e417b7cdc49711fe9cf4d1c53b43305bf23c477707c9", func := "metronome/metronomelaw1.BvWraps", spec := "bvWraps", unfollowed := true, recurses := true, apart := false }
def BvWrapsSaid : Prop := bvWrapsRow.holds Try.pinned (OpenSpec.ofChange bvWrapsSpec)

/-- ITS FALSE NEIGHBOUR: 'it returns false'. Refute it at one input. -/
def bvWrapsWrong : ChangeSpec := { name := "bvWraps", fn := fun _ => fun
  | [d1, d2] => { results := [.lit (.bool false)], args := [d1, d2] }
  | _ => none }
def BvWrapsWrongFalsely : Prop := bvWrapsRow.holds Try.pinned (OpenSpec.ofChange bvWrapsWrong)

/-- 'metronomelaw1.BvUn': WHATEVER THE INPUT: true; the input reads as it did. -/
def bvUnSpec : ChangeSpec := { name := "bvUn", fn := fun _ => fun
  | [d1, d2, d3, d4] => { results := [.lit (.bool true)], args := [d1, d2, d3, d4] }
  | _ => none }
def bvUnRow : OpenClaim := { program := "ytjlphploknhcfaa", sum := "5532c30fed3280e7ca83e417b7cdc49711fe9cf4d1c53b43305bf23c477707c9", func := "metronome/metronomelaw1.BvUn", spec := "bvUn", unfollowed := true, recurses := true, apart := false }
def BvUnSaid : Prop := bvUnRow.holds Try.pinned (OpenSpec.ofChange bvUnSpec)

/-- ITS FALSE NEIGHBOUR: 'it returns false'. Refute it at one input. -/
def bvUnWrong : ChangeSpec := { name := "bvUn", fn := fun _ => fun
  | [d1, d2, d3, d4] => { results := [.lit (.bool false)], args := [d1, d2, d3, d4] }
  | _ => none }
def BvUnWrongFalsely : Prop := bvUnRow.holds Try.pinned (OpenSpec.ofChange bvUnWrong)

/-- 'metronomelaw1.BvBin': WHATEVER THE INPUT: true; the input reads as it did. -/
def bvBinSpec : ChangeSpec := { name := "bvBin", fn := fun _ => fun
  | [d1, d2, d3, d4, d5] => { results := [.lit (.bool true)], args := [d1, d2, d3, d4, d5] }
  | _ => none }
def bvBinRow : OpenClaim := { program := "ytjlphploknhcfaa", sum := "5532c30fed3280e7ca83e417b7cdc49711fe9cf4d1c53b43305bf23c477707c9", func := "metronome/metronomelaw1.BvBin", spec := "bvBin", unfollowed := true, recurses := true, apart := false }
def BvBinSaid : Prop := bvBinRow.holds Try.pinned (OpenSpec.ofChange bvBinSpec)

/-- ITS FALSE NEIGHBOUR: 'it returns false'. Refute it at one input. -/
def bvBinWrong : ChangeSpec := { name := "bvBin", fn := fun _ => fun
  | [d1, d2, d3, d4, d5] => { results := [.lit (.bool false)], args := [d1, d2, d3, d4, d5] }
  | _ => none }
def BvBinWrongFalsely : Prop := bvBinRow.holds Try.pinned (OpenSpec.ofChange bvBinWrong)

/-- 'metronomelaw1.BvCasts': WHATEVER THE INPUT: true; the input reads as it did. -/
def bvCastsSpec : ChangeSpec := { name := "bvCasts", fn := fun _ => fun
  | [d1, d2, d3, d4] => { results := [.lit (.bool true)], args := [d1, d2, d3, d4] }
  | _ => none }
def bvCastsRow : OpenClaim := { program := "ytjlphploknhcfaa", sum := "5532c30fed3280e7ca83e417b7cdc49711fe9cf4d1c53b43305bf23c477707c9", func := "metronome/metronomelaw1.BvCasts", spec := "bvCasts", unfollowed := true, recurses := true, apart := false }
def BvCastsSaid : Prop := bvCastsRow.holds Try.pinned (OpenSpec.ofChange bvCastsSpec)

/-- ITS FALSE NEIGHBOUR: 'it returns false'. Refute it at one input. -/
def bvCastsWrong : ChangeSpec := { name := "bvCasts", fn := fun _ => fun
  | [d1, d2, d3, d4] => { results := [.lit (.bool false)], args := [d1, d2, d3, d4] }
  | _ => none }
def BvCastsWrongFalsely : Prop := bvCastsRow.holds Try.pinned (OpenSpec.ofChange bvCastsWrong)

/-- 'metronomelaw1.BvClosed': WHATEVER THE INPUT: true; the input reads as it did. -/
def bvClosedSpec : ChangeSpec := { name := "bvClosed", fn := fun _ => fun
  | [d1, d2, d3, d4, d5, d6] => { results := [.lit (.bool true)], args := [d1, d2, d3, d4, d5, d6] }
  | _ => none }
def bvClosedRow : OpenClaim := { program := "ytjlphploknhcfaa", sum := "5532c30fed3280e7ca83e417b7cdc49711fe9cf4d1c53b43305bf23c477707c9", func := "metronome/metronomelaw1.BvClosed", spec := "bvClosed", unfollowed := true, recurses := true, apart := false }
def BvClosedSaid : Prop := bvClosedRow.holds Try.pinned (OpenSpec.ofChange bvClosedSpec)

/-- ITS FALSE NEIGHBOUR: 'it returns false'. Refute it at one input. -/
def bvClosedWrong : ChangeSpec := { name := "bvClosed", fn := fun _ => fun
  | [d1, d2, d3, d4, d5, d6] => { results := [.lit (.bool false)], args := [d1, d2, d3, d4, d5, d6] }
  | _ => none }
def BvClosedWrongFalsely : Prop := bvClosedRow.holds Try.pinned (OpenSpec.ofChange bvClosedWrong)

/-- 'metronomelaw1.BvDivides': WHATEVER THE INPUT: true; the input reads as it did. -/
def bvDividesSpec : ChangeSpec := { name := "bvDivides", fn := fun _ => fun
  | [d1, d2, d3] => { results := [.lit (.bool true)], args := [d1, d2, d3] }
  | _ => none }
def bvDividesRow : OpenClaim := { program := "ytjlphploknhcfaa", sum := "5532c30fed3280e7ca83e417b7cdc49711fe9cf4d1c53b43305bf23c477707c9", func := "metronome/metronomelaw1.BvDivides", spec := "bvDivides", unfollowed := true, recurses := true, apart := false }
def BvDividesSaid : Prop := bvDividesRow.holds Try.pinned (OpenSpec.ofChange bvDividesSpec)

/-- ITS FALSE NEIGHBOUR: 'it returns false'. Refute it at one input. -/
def bvDividesWrong : ChangeSpec := { name := "bvDivides", fn := fun _ => fun
  | [d1, d2, d3] => { results := [.lit (.bool false)], args := [d1, d2, d3] }
  | _ => none }
def BvDividesWrongFalsely : Prop := bvDividesRow.holds Try.pinned (OpenSpec.ofChange bvDividesWrong)

/- THE SECOND FORM. 'bulk': how many values and letters a reading holds, each counted each time it is reached (what is shared counts as often as it is met; a slice's spare places count too). A statement '..UptoSaid' is the law's where the arguments, and the package variables that the reading takes, are together of bulk at most 1048576: NARROWER than '..Said'. Prove '..Said' where nothing that the law and all that it calls make is longer than what came in: it says more and counts as full. Else prove '..UptoSaid'. A law counts once. -/
mutual
def uptoBulk {H : Type} : DataW H → Nat
  | .lit (.string bytes) => bytes.length + 1
  | .lit _ => 1
  | .nil => 1
  | .ptr d => uptoBulk d + 1
  | .slice elems spare => uptoBulkAll elems + uptoBulkAll spare + 1
  | .agg parts => uptoBulkAll parts + 1
  | .iface _ d => uptoBulk d + 1
  | .map entries => uptoBulkEntries entries + 1
  | .held _ => 1
def uptoBulkAll {H : Type} : List (DataW H) → Nat
  | [] => 0
  | d :: r => uptoBulk d + uptoBulkAll r
def uptoBulkEntries {H : Type} : List (Lit × DataW H) → Nat
  | [] => 0
  | x :: r => uptoBulkEntry x + uptoBulkEntries r
def uptoBulkEntry {H : Type} : Lit × DataW H → Nat
  | (.string bytes, d) => bytes.length + uptoBulk d + 1
  | (_, d) => uptoBulk d + 1
 end
def uptoSmall : (H : Type) → List (DataW H) → Bool := fun _ ds => decide (uptoBulkAll ds ≤ 1048576)
def OpenSpec.upto (s : _root_.Go.ChangeSpec) : _root_.Go.OpenSpec := { _root_.Go.OpenSpec.ofChange s with cond := some uptoSmall }

/-- 'metronomelaw1.BvWraps', WHERE WHAT IT READS IS OF BULK AT MOST 1048576: true; the input reads as it did. -/
def bvWrapsUptoRow : OpenClaim := { program := "ytjlphploknhcfaa", sum := "5532c30fed3280e7ca83e417b7cdc49711fe9cf4d1c53b43305bf23c477707c9", func := "metronome/metronomelaw1.BvWraps", spec := "bvWraps", unfollowed := true, recurses := true, apart := false, narrowed := true }
def BvWrapsUptoSaid : Prop := bvWrapsUptoRow.holds Try.pinned (OpenSpec.upto bvWrapsSpec)

/-- 'metronomelaw1.BvUn', WHERE WHAT IT READS IS OF BULK AT MOST 1048576: true; the input reads as it did. -/
def bvUnUptoRow : OpenClaim := { program := "ytjlphploknhcfaa", sum := "5532c30fed3280e7ca83e417b7cdc49711fe9cf4d1c53b43305bf23c477707c9", func := "metronome/metronomelaw1.BvUn", spec := "bvUn", unfollowed := true, recurses := true, apart := false, narrowed := true }
def BvUnUptoSaid : Prop := bvUnUptoRow.holds Try.pinned (OpenSpec.upto bvUnSpec)

/-- 'metronomelaw1.BvBin', WHERE WHAT IT READS IS OF BULK AT MOST 1048576: true; the input reads as it did. -/
def bvBinUptoRow : OpenClaim := { program := "ytjlphploknhcfaa", sum := "5532c30fed3280e7ca83e417b7cdc49711fe9cf4d1c53b43305bf23c477707c9", func := "metronome/metronomelaw1.BvBin", spec := "bvBin", unfollowed := true, recurses := true, apart := false, narrowed := true }
def BvBinUptoSaid : Prop := bvBinUptoRow.holds Try.pinned (OpenSpec.upto bvBinSpec)

/-- 'metronomelaw1.BvCasts', WHERE WHAT IT READS IS OF BULK AT MOST 1048576: true; the input reads as it did. -/
def bvCastsUptoRow : OpenClaim := { program := "ytjlphploknhcfaa", sum := "5532c30fed3280e7ca83e417b7cdc49711fe9cf4d1c53b43305bf23c477707c9", func := "metronome/metronomelaw1.BvCasts", spec := "bvCasts", unfollowed := true, recurses := true, apart := false, narrowed := true }
def BvCastsUptoSaid : Prop := bvCastsUptoRow.holds Try.pinned (OpenSpec.upto bvCastsSpec)

/-- 'metronomelaw1.BvClosed', WHERE WHAT IT READS IS OF BULK AT MOST 1048576: true; the input reads as it did. -/
def bvClosedUptoRow : OpenClaim := { program := "ytjlphploknhcfaa", sum := "5532c30fed3280e7ca83e417b7cdc49711fe9cf4d1c53b43305bf23c477707c9", func := "metronome/metronomelaw1.BvClosed", spec := "bvClosed", unfollowed := true, recurses := true, apart := false, narrowed := true }
def BvClosedUptoSaid : Prop := bvClosedUptoRow.holds Try.pinned (OpenSpec.upto bvClosedSpec)

/-- 'metronomelaw1.BvDivides', WHERE WHAT IT READS IS OF BULK AT MOST 1048576: true; the input reads as it did. -/
def bvDividesUptoRow : OpenClaim := { program := "ytjlphploknhcfaa", sum := "5532c30fed3280e7ca83e417b7cdc49711fe9cf4d1c53b43305bf23c477707c9", func := "metronome/metronomelaw1.BvDivides", spec := "bvDivides", unfollowed := true, recurses := true, apart := false, narrowed := true }
def BvDividesUptoSaid : Prop := bvDividesUptoRow.holds Try.pinned (OpenSpec.upto bvDividesSpec)

end Rows
end Go.Proofs.Ytjlphploknhcfaa
