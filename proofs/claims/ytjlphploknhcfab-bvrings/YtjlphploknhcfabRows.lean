/-
  No cell of these rows narrows 'for every input' (looked for: loops, veiled, ifaces, maps, wideKeys, modest, calm, conditions, laid).
  DERIVED. THE GIVEN ROWS OF THIS SEAT. 6 by the template 'for every input the law returns true; each argument reads behind the call as it read before'; 0 by the template 'total and deterministic' (their statements: YtjlphploknhcfabTotals.lean).
  GIVEN WITH THE SEED: the statements are not yours to turn. If you find one false, say at which input.
  Laid BY PROGRAM, IN A SANDBOX (cutbox-rows.mjs): the forced cells as the released guide's own fill.sh prints them over the translation daacd80f1c8a8024… (all of the seat's roots in one cut). By AI agents, Wed Nov 11 2026. No macro, syntax, notation, axiom, sorry.
-/
import Derived.Test.YtjlphploknhcfabChecked
import GoSem.Claim
import GoSem.ClaimJoined
import GoSem.ClaimMapViews
import Derived.JoinedTies
import Derived.KernelRfl
namespace Go.Proofs.Ytjlphploknhcfab
/- THE CELL 'sum', in the pinned program and in every row, IS THE sha256 OF THE DUMP (.gsa) THAT YtjlphploknhcfabProg.lean LOADS. Nothing in Lean hashes anything: it is a label: what it is worth is what the hold of that sum in a sandbox is worth. -/
noncomputable def Try.pinned : Pinned := { name := "ytjlphploknhcfab", sum := "daacd80f1c8a80248701d68b95f0747c4ad6ac07f00bcabb9a3d05c5bd28990f", checked := Try.checked }
namespace Rows
def none {H : Type} : Left H := { results := [], args := [] }

/-- 'metronomelaw1.BvRings': WHATEVER THE INPUT: true; the input reads as it did. -/
def bvRingsSpec : ChangeSpec := { name := "bvRings", fn := fun _ => fun
  | [d1, d2, d3, d4] => { results := [.lit (.bool true)], args := [d1, d2, d3, d4] }
  | _ => none }
def bvRingsRow : OpenClaim := { program := "ytjlphploknhcfab", sum := "daacd80f1c8a80248701d68b95f0747c4ad6ac07f00bcabb9a3d05c5bd28990f", func := "metronome/metronomelaw1.BvRings", spec := "bvRings", unfollowed := true, recurses := true, apart := false }
def BvRingsSaid : Prop := bvRingsRow.holds Try.pinned (OpenSpec.ofChange bvRingsSpec)

/-- ITS FALSE NEIGHBOUR: 'it returns false'. Refute it at one input. -/
def bvRingsWrong : ChangeSpec := { name := "bvRings", fn := fun _ => fun
  | [d1, d2, d3, d4] => { results := [.lit (.bool false)], args := [d1, d2, d3, d4] }
  | _ => none }
def BvRingsWrongFalsely : Prop := bvRingsRow.holds Try.pinned (OpenSpec.ofChange bvRingsWrong)

/-- 'metronomelaw1.BvShifts': WHATEVER THE INPUT: true; the input reads as it did. -/
def bvShiftsSpec : ChangeSpec := { name := "bvShifts", fn := fun _ => fun
  | [d1, d2, d3] => { results := [.lit (.bool true)], args := [d1, d2, d3] }
  | _ => none }
def bvShiftsRow : OpenClaim := { program := "ytjlphploknhcfab", sum := "daacd80f1c8a80248701d68b95f0747c4ad6ac07f00bcabb9a3d05c5bd28990f", func := "metronome/metronomelaw1.BvShifts", spec := "bvShifts", unfollowed := true, recurses := true, apart := false }
def BvShiftsSaid : Prop := bvShiftsRow.holds Try.pinned (OpenSpec.ofChange bvShiftsSpec)

/-- ITS FALSE NEIGHBOUR: 'it returns false'. Refute it at one input. -/
def bvShiftsWrong : ChangeSpec := { name := "bvShifts", fn := fun _ => fun
  | [d1, d2, d3] => { results := [.lit (.bool false)], args := [d1, d2, d3] }
  | _ => none }
def BvShiftsWrongFalsely : Prop := bvShiftsRow.holds Try.pinned (OpenSpec.ofChange bvShiftsWrong)

/-- 'metronomelaw1.BvBack': WHATEVER THE INPUT: true; the input reads as it did. -/
def bvBackSpec : ChangeSpec := { name := "bvBack", fn := fun _ => fun
  | [d1, d2, d3] => { results := [.lit (.bool true)], args := [d1, d2, d3] }
  | _ => none }
def bvBackRow : OpenClaim := { program := "ytjlphploknhcfab", sum := "daacd80f1c8a80248701d68b95f0747c4ad6ac07f00bcabb9a3d05c5bd28990f", func := "metronome/metronomelaw1.BvBack", spec := "bvBack", unfollowed := true, recurses := true, apart := false }
def BvBackSaid : Prop := bvBackRow.holds Try.pinned (OpenSpec.ofChange bvBackSpec)

/-- ITS FALSE NEIGHBOUR: 'it returns false'. Refute it at one input. -/
def bvBackWrong : ChangeSpec := { name := "bvBack", fn := fun _ => fun
  | [d1, d2, d3] => { results := [.lit (.bool false)], args := [d1, d2, d3] }
  | _ => none }
def BvBackWrongFalsely : Prop := bvBackRow.holds Try.pinned (OpenSpec.ofChange bvBackWrong)

/-- 'metronomelaw1.BvOrders': WHATEVER THE INPUT: true; the input reads as it did. -/
def bvOrdersSpec : ChangeSpec := { name := "bvOrders", fn := fun _ => fun
  | [d1, d2, d3, d4] => { results := [.lit (.bool true)], args := [d1, d2, d3, d4] }
  | _ => none }
def bvOrdersRow : OpenClaim := { program := "ytjlphploknhcfab", sum := "daacd80f1c8a80248701d68b95f0747c4ad6ac07f00bcabb9a3d05c5bd28990f", func := "metronome/metronomelaw1.BvOrders", spec := "bvOrders", unfollowed := true, recurses := true, apart := false }
def BvOrdersSaid : Prop := bvOrdersRow.holds Try.pinned (OpenSpec.ofChange bvOrdersSpec)

/-- ITS FALSE NEIGHBOUR: 'it returns false'. Refute it at one input. -/
def bvOrdersWrong : ChangeSpec := { name := "bvOrders", fn := fun _ => fun
  | [d1, d2, d3, d4] => { results := [.lit (.bool false)], args := [d1, d2, d3, d4] }
  | _ => none }
def BvOrdersWrongFalsely : Prop := bvOrdersRow.holds Try.pinned (OpenSpec.ofChange bvOrdersWrong)

/-- 'metronomelaw1.BvMorgan': WHATEVER THE INPUT: true; the input reads as it did. -/
def bvMorganSpec : ChangeSpec := { name := "bvMorgan", fn := fun _ => fun
  | [d1, d2, d3, d4] => { results := [.lit (.bool true)], args := [d1, d2, d3, d4] }
  | _ => none }
def bvMorganRow : OpenClaim := { program := "ytjlphploknhcfab", sum := "daacd80f1c8a80248701d68b95f0747c4ad6ac07f00bcabb9a3d05c5bd28990f", func := "metronome/metronomelaw1.BvMorgan", spec := "bvMorgan", unfollowed := true, recurses := true, apart := false }
def BvMorganSaid : Prop := bvMorganRow.holds Try.pinned (OpenSpec.ofChange bvMorganSpec)

/-- ITS FALSE NEIGHBOUR: 'it returns false'. Refute it at one input. -/
def bvMorganWrong : ChangeSpec := { name := "bvMorgan", fn := fun _ => fun
  | [d1, d2, d3, d4] => { results := [.lit (.bool false)], args := [d1, d2, d3, d4] }
  | _ => none }
def BvMorganWrongFalsely : Prop := bvMorganRow.holds Try.pinned (OpenSpec.ofChange bvMorganWrong)

/-- 'metronomelaw1.BvSigns': WHATEVER THE INPUT: true; the input reads as it did. -/
def bvSignsSpec : ChangeSpec := { name := "bvSigns", fn := fun _ => fun
  | [d1, d2] => { results := [.lit (.bool true)], args := [d1, d2] }
  | _ => none }
def bvSignsRow : OpenClaim := { program := "ytjlphploknhcfab", sum := "daacd80f1c8a80248701d68b95f0747c4ad6ac07f00bcabb9a3d05c5bd28990f", func := "metronome/metronomelaw1.BvSigns", spec := "bvSigns", unfollowed := true, recurses := true, apart := false }
def BvSignsSaid : Prop := bvSignsRow.holds Try.pinned (OpenSpec.ofChange bvSignsSpec)

/-- ITS FALSE NEIGHBOUR: 'it returns false'. Refute it at one input. -/
def bvSignsWrong : ChangeSpec := { name := "bvSigns", fn := fun _ => fun
  | [d1, d2] => { results := [.lit (.bool false)], args := [d1, d2] }
  | _ => none }
def BvSignsWrongFalsely : Prop := bvSignsRow.holds Try.pinned (OpenSpec.ofChange bvSignsWrong)

/- THE SECOND FORM. 'bulk': how many values and letters a reading holds, each counted each time it is reached (what is shared counts as often as it is met; a slice's spare places count too). A statement '..UptoSaid' is the law's where the arguments, and the package variables that the reading takes, are together of bulk at most 1048576: NARROWER than '..Said'. Prove '..Said' where nothing that the law and all that it calls make is longer than what came in: it says more and counts as full. Else prove '..UptoSaid'. A law counts once. -/
mutual
def uptoBulk {H : Type} : DataW H → Nat
  | .lit (.string bytes) => bytes.length + 1
  | .lit _ => 1
  | .nil => 1
  | .ptr d => uptoBulk d + 1
  | .slice elems spare => uptoBulkAll elems + uptoBulkAll spare + 1
  | .agg parts => uptoBulkAll parts + 1
  | .iface _ d => uptoBulk d + 1
  | .map entries => uptoBulkEntries entries + 1
  | .held _ => 1
def uptoBulkAll {H : Type} : List (DataW H) → Nat
  | [] => 0
  | d :: r => uptoBulk d + uptoBulkAll r
def uptoBulkEntries {H : Type} : List (Lit × DataW H) → Nat
  | [] => 0
  | x :: r => uptoBulkEntry x + uptoBulkEntries r
def uptoBulkEntry {H : Type} : Lit × DataW H → Nat
  | (.string bytes, d) => bytes.length + uptoBulk d + 1
  | (_, d) => uptoBulk d + 1
 end
def uptoSmall : (H : Type) → List (DataW H) → Bool := fun _ ds => decide (uptoBulkAll ds ≤ 1048576)
def OpenSpec.upto (s : _root_.Go.ChangeSpec) : _root_.Go.OpenSpec := { _root_.Go.OpenSpec.ofChange s with cond := some uptoSmall }

/-- 'metronomelaw1.BvRings', WHERE WHAT IT READS IS OF BULK AT MOST 1048576: true; the input reads as it did. -/
def bvRingsUptoRow : OpenClaim := { program := "ytjlphploknhcfab", sum := "daacd80f1c8a80248701d68b95f0747c4ad6ac07f00bcabb9a3d05c5bd28990f", func := "metronome/metronomelaw1.BvRings", spec := "bvRings", unfollowed := true, recurses := true, apart := false, narrowed := true }
def BvRingsUptoSaid : Prop := bvRingsUptoRow.holds Try.pinned (OpenSpec.upto bvRingsSpec)

/-- 'metronomelaw1.BvShifts', WHERE WHAT IT READS IS OF BULK AT MOST 1048576: true; the input reads as it did. -/
def bvShiftsUptoRow : OpenClaim := { program := "ytjlphploknhcfab", sum := "daacd80f1c8a80248701d68b95f0747c4ad6ac07f00bcabb9a3d05c5bd28990f", func := "metronome/metronomelaw1.BvShifts", spec := "bvShifts", unfollowed := true, recurses := true, apart := false, narrowed := true }
def BvShiftsUptoSaid : Prop := bvShiftsUptoRow.holds Try.pinned (OpenSpec.upto bvShiftsSpec)

/-- 'metronomelaw1.BvBack', WHERE WHAT IT READS IS OF BULK AT MOST 1048576: true; the input reads as it did. -/
def bvBackUptoRow : OpenClaim := { program := "ytjlphploknhcfab", sum := "daacd80f1c8a80248701d68b95f0747c4ad6ac07f00bcabb9a3d05c5bd28990f", func := "metronome/metronomelaw1.BvBack", spec := "bvBack", unfollowed := true, recurses := true, apart := false, narrowed := true }
def BvBackUptoSaid : Prop := bvBackUptoRow.holds Try.pinned (OpenSpec.upto bvBackSpec)

/-- 'metronomelaw1.BvOrders', WHERE WHAT IT READS IS OF BULK AT MOST 1048576: true; the input reads as it did. -/
def bvOrdersUptoRow : OpenClaim := { program := "ytjlphploknhcfab", sum := "daacd80f1c8a80248701d68b95f0747c4ad6ac07f00bcabb9a3d05c5bd28990f", func := "metronome/metronomelaw1.BvOrders", spec := "bvOrders", unfollowed := true, recurses := true, apart := false, narrowed := true }
def BvOrdersUptoSaid : Prop := bvOrdersUptoRow.holds Try.pinned (OpenSpec.upto bvOrdersSpec)

/-- 'metronomelaw1.BvMorgan', WHERE WHAT IT READS IS OF BULK AT MOST 1048576: true; the input reads as it did. -/
def bvMorganUptoRow : OpenClaim := { program := "ytjlphploknhcfab", sum := "daacd80f1c8a80248701d68b95f0747c4ad6ac07f00bcabb9a3d05c5bd28990f", func := "metronome/metronomelaw1.BvMorgan", spec := "bvMorgan", unfollowed := true, recurses := true, apart := false, narrowed := true }
def BvMorganUptoSaid : Prop := bvMorganUptoRow.holds Try.pinned (OpenSpec.upto bvMorganSpec)

/-- 'metronomelaw1.BvSigns', WHERE WHAT IT READS IS OF BULK AT MOST 1048576: true; the input reads as it did. -/
def bvSignsUptoRow : OpenClaim := { program := "ytjlphploknhcfab", sum := "daacd80f1c8a80248701d68b95f0747c4ad6ac07f00bcabb9a3d05c5bd28990f", func := "metronome/metronomelaw1.BvSigns", spec := "bvSigns", unfollowed := true, recurses := true, apart := false, narrowed := true }
def BvSignsUptoSaid : Prop := bvSignsUptoRow.holds Try.pinned (OpenSpec.upto bvSignsSpec)

end Rows
end Go.Proofs.Ytjlphploknhcfab
