/-
  No cell of these rows narrows 'for every input' (looked for: loops, veiled, ifaces, maps, wideKeys, modest, calm, conditions, laid).
  DERIVED. THE GIVEN ROWS OF THIS SEAT. 4 by the template 'for every input the law returns true; each argument reads behind the call as it read before'; 0 by the template 'total and deterministic' (their statements: YtbbamgjdnibldaaGreatTotals.lean).
  GIVEN WITH THE SEED: the statements are not yours to turn. If you find one false, say at which input.
  Laid BY PROGRAM, IN A SANDBOX (cutbox-rows.mjs): the forced cells as the released guide's own fill.sh prints them over the translation 49241c0ae6286918… (all of the seat's roots in one cut). By AI agents, Wed Nov 11 2026. No macro, syntax, notation, axiom, sorry.
-/
import Derived.Test.YtbbamgjdnibldaaGreatChecked
import GoSem.Claim
import GoSem.ClaimJoined
import GoSem.ClaimMapViews
import Derived.JoinedTies
import Derived.KernelRfl
namespace Go.Proofs.YtbbamgjdnibldaaGreat
/- THE CELL 'sum', in the pinned program and in every row, IS THE sha256 OF THE DUMP (.gsa) THAT YtbbamgjdnibldaaGreatProg.lean LOADS. Nothing in Lean hashes anything: it is a label: what it is worth is what the hold of that sum in a sandbox is worth. -/
noncomputable def Tryz.pinned : Pinned := { name := "ytbbamgjdnibldaagreat", sum := "49241c0ae62869186a78d506b276051acac486ad62580e545b846c2d4d1416e8", checked := Tryz.checked }
namespace Rows
def none {H : Type} : Left H := { results := [], args := [] }

/-- 'metronomelaw6.TypesOps': WHATEVER THE INPUT: true; the input reads as it did. -/
def typesOpsSpec : ChangeSpec := { name := "typesOps", fn := fun _ => fun
  | [d1, d2, d3] => { results := [.lit (.bool true)], args := [d1, d2, d3] }
  | _ => none }
def typesOpsRow : OpenClaim := { program := "ytbbamgjdnibldaagreat", sum := "49241c0ae62869186a78d506b276051acac486ad62580e545b846c2d4d1416e8", func := "metronome/metronomelaw6.TypesOps", spec := "typesOps", unfollowed := true, recurses := true, plainKeys := false, apart := false }
def TypesOpsSaid : Prop := typesOpsRow.holds Tryz.pinned (OpenSpec.ofChange typesOpsSpec)

/-- ITS FALSE NEIGHBOUR: 'it returns false'. Refute it at one input. -/
def typesOpsWrong : ChangeSpec := { name := "typesOps", fn := fun _ => fun
  | [d1, d2, d3] => { results := [.lit (.bool false)], args := [d1, d2, d3] }
  | _ => none }
def TypesOpsWrongFalsely : Prop := typesOpsRow.holds Tryz.pinned (OpenSpec.ofChange typesOpsWrong)

/-- 'metronomelaw6.TypesArrays': WHATEVER THE INPUT: true; the input reads as it did. -/
def typesArraysSpec : ChangeSpec := { name := "typesArrays", fn := fun _ => fun
  | [d1, d2, d3] => { results := [.lit (.bool true)], args := [d1, d2, d3] }
  | _ => none }
def typesArraysRow : OpenClaim := { program := "ytbbamgjdnibldaagreat", sum := "49241c0ae62869186a78d506b276051acac486ad62580e545b846c2d4d1416e8", func := "metronome/metronomelaw6.TypesArrays", spec := "typesArrays", unfollowed := true, recurses := true, plainKeys := false, apart := false }
def TypesArraysSaid : Prop := typesArraysRow.holds Tryz.pinned (OpenSpec.ofChange typesArraysSpec)

/-- ITS FALSE NEIGHBOUR: 'it returns false'. Refute it at one input. -/
def typesArraysWrong : ChangeSpec := { name := "typesArrays", fn := fun _ => fun
  | [d1, d2, d3] => { results := [.lit (.bool false)], args := [d1, d2, d3] }
  | _ => none }
def TypesArraysWrongFalsely : Prop := typesArraysRow.holds Tryz.pinned (OpenSpec.ofChange typesArraysWrong)

/-- 'metronomelaw6.TypesWrong': WHATEVER THE INPUT: true; the input reads as it did. -/
def typesWrongSpec : ChangeSpec := { name := "typesWrong", fn := fun _ => fun
  | [d] => { results := [.lit (.bool true)], args := [d] }
  | _ => none }
def typesWrongRow : OpenClaim := { program := "ytbbamgjdnibldaagreat", sum := "49241c0ae62869186a78d506b276051acac486ad62580e545b846c2d4d1416e8", func := "metronome/metronomelaw6.TypesWrong", spec := "typesWrong", unfollowed := true, recurses := true, plainKeys := false, apart := false }
def TypesWrongSaid : Prop := typesWrongRow.holds Tryz.pinned (OpenSpec.ofChange typesWrongSpec)

/-- ITS FALSE NEIGHBOUR: 'it returns false'. Refute it at one input. -/
def typesWrongWrong : ChangeSpec := { name := "typesWrong", fn := fun _ => fun
  | [d] => { results := [.lit (.bool false)], args := [d] }
  | _ => none }
def TypesWrongWrongFalsely : Prop := typesWrongRow.holds Tryz.pinned (OpenSpec.ofChange typesWrongWrong)

/-- 'metronomelaw6.TypesCalls': WHATEVER THE INPUT: true; the input reads as it did. -/
def typesCallsSpec : ChangeSpec := { name := "typesCalls", fn := fun _ => fun
  | [d1, d2, d3] => { results := [.lit (.bool true)], args := [d1, d2, d3] }
  | _ => none }
def typesCallsRow : OpenClaim := { program := "ytbbamgjdnibldaagreat", sum := "49241c0ae62869186a78d506b276051acac486ad62580e545b846c2d4d1416e8", func := "metronome/metronomelaw6.TypesCalls", spec := "typesCalls", unfollowed := true, recurses := true, plainKeys := false, apart := false }
def TypesCallsSaid : Prop := typesCallsRow.holds Tryz.pinned (OpenSpec.ofChange typesCallsSpec)

/-- ITS FALSE NEIGHBOUR: 'it returns false'. Refute it at one input. -/
def typesCallsWrong : ChangeSpec := { name := "typesCalls", fn := fun _ => fun
  | [d1, d2, d3] => { results := [.lit (.bool false)], args := [d1, d2, d3] }
  | _ => none }
def TypesCallsWrongFalsely : Prop := typesCallsRow.holds Tryz.pinned (OpenSpec.ofChange typesCallsWrong)

/- THE SECOND FORM. 'bulk': how many values and letters a reading holds, each counted each time it is reached (what is shared counts as often as it is met; a slice's spare places count too). A statement '..UptoSaid' is the law's where the arguments, and the package variables that the reading takes, are together of bulk at most 1048576: NARROWER than '..Said'. Prove '..Said' where nothing that the law and all that it calls make is longer than what came in: it says more and counts as full. Else prove '..UptoSaid'. A law counts once. -/
mutual
def uptoBulk {H : Type} : DataW H → Nat
  | .lit (.string bytes) => bytes.length + 1
  | .lit _ => 1
  | .nil => 1
  | .ptr d => uptoBulk d + 1
  | .slice elems spare => uptoBulkAll elems + uptoBulkAll spare + 1
  | .agg parts => uptoBulkAll parts + 1
  | .iface _ d => uptoBulk d + 1
  | .map entries => uptoBulkEntries entries + 1
  | .held _ => 1
def uptoBulkAll {H : Type} : List (DataW H) → Nat
  | [] => 0
  | d :: r => uptoBulk d + uptoBulkAll r
def uptoBulkEntries {H : Type} : List (Lit × DataW H) → Nat
  | [] => 0
  | x :: r => uptoBulkEntry x + uptoBulkEntries r
def uptoBulkEntry {H : Type} : Lit × DataW H → Nat
  | (.string bytes, d) => bytes.length + uptoBulk d + 1
  | (_, d) => uptoBulk d + 1
 end
def uptoSmall : (H : Type) → List (DataW H) → Bool := fun _ ds => decide (uptoBulkAll ds ≤ 1048576)
def OpenSpec.upto (s : _root_.Go.ChangeSpec) : _root_.Go.OpenSpec := { _root_.Go.OpenSpec.ofChange s with cond := some uptoSmall }

/-- 'metronomelaw6.TypesOps', WHERE WHAT IT READS IS OF BULK AT MOST 1048576: true; the input reads as it did. -/
def typesOpsUptoRow : OpenClaim := { program := "ytbbamgjdnibldaagreat", sum := "49241c0ae62869186a78d506b276051acac486ad62580e545b846c2d4d1416e8", func := "metronome/metronomelaw6.TypesOps", spec := "typesOps", unfollowed := true, recurses := true, plainKeys := false, apart := false, narrowed := true }
def TypesOpsUptoSaid : Prop := typesOpsUptoRow.holds Tryz.pinned (OpenSpec.upto typesOpsSpec)

/-- 'metronomelaw6.TypesArrays', WHERE WHAT IT READS IS OF BULK AT MOST 1048576: true; the input reads as it did. -/
def typesArraysUptoRow : OpenClaim := { program := "ytbbamgjdnibldaagreat", sum := "49241c0ae62869186a78d506b276051acac486ad62580e545b846c2d4d1416e8", func := "metronome/metronomelaw6.TypesArrays", spec := "typesArrays", unfollowed := true, recurses := true, plainKeys := false, apart := false, narrowed := true }
def TypesArraysUptoSaid : Prop := typesArraysUptoRow.holds Tryz.pinned (OpenSpec.upto typesArraysSpec)

/-- 'metronomelaw6.TypesWrong', WHERE WHAT IT READS IS OF BULK AT MOST 1048576: true; the input reads as it did. -/
def typesWrongUptoRow : OpenClaim := { program := "ytbbamgjdnibldaagreat", sum := "49241c0ae62869186a78d506b276051acac486ad62580e545b846c2d4d1416e8", func := "metronome/metronomelaw6.TypesWrong", spec := "typesWrong", unfollowed := true, recurses := true, plainKeys := false, apart := false, narrowed := true }
def TypesWrongUptoSaid : Prop := typesWrongUptoRow.holds Tryz.pinned (OpenSpec.upto typesWrongSpec)

/-- 'metronomelaw6.TypesCalls', WHERE WHAT IT READS IS OF BULK AT MOST 1048576: true; the input reads as it did. -/
def typesCallsUptoRow : OpenClaim := { program := "ytbbamgjdnibldaagreat", sum := "49241c0ae62869186a78d506b276051acac486ad62580e545b846c2d4d1416e8", func := "metronome/metronomelaw6.TypesCalls", spec := "typesCalls", unfollowed := true, recurses := true, plainKeys := false, apart := false, narrowed := true }
def TypesCallsUptoSaid : Prop := typesCallsUptoRow.holds Tryz.pinned (OpenSpec.upto typesCallsSpec)

end Rows
end Go.Proofs.YtbbamgjdnibldaaGreat
