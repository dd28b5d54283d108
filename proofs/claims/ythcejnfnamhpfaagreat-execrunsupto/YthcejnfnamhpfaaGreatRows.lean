/-
  No cell of these rows narrows 'for every input' (looked for: loops, veiled, ifaces, maps, wideKeys, modest, calm, conditions, laid).
  DERIVED. THE GIVEN ROWS OF THIS SEAT. 4 by the template 'for every input the law returns true; each argument reads behind the call as it read before'; 0 by the template 'total and deterministic' (their statements: YthcejnfnamhpfaaGreatTotals.lean).
  GIVEN WITH THE SEED: the statements are not yours to turn. If you find one false, say at which input.
  Laid BY PROGRAM, IN A SANDBOX (cutbox-rows.mjs): the forced cells as the released guide's own fill.sh prints them over the translation 0a3240d614238128… (all of the seat's roots in one cut). By AI agents, Wed Nov 11 2026. No macro, syntax, notation, axiom, sorry.
-/
import Derived.Test.YthcejnfnamhpfaaGreatChecked
import GoSem.Claim
import GoSem.ClaimJoined
import GoSem.ClaimMapViews
import Derived.JoinedTies
import Derived.KernelRfl
namespace Go.Proofs.YthcejnfnamhpfaaGreat
/- THE CELL 'sum', in the pinned program and in every row, IS THE sha256 OF THE DUMP (.gsa) THAT YthcejnfnamhpfaaGreatProg.lean LOADS. Nothing in Lean hashes anything: it is a label: what it is worth is what the hold of that sum in a sandbox is worth. -/
noncomputable def Tryz.pinned : Pinned := { name := "ythcejnfnamhpfaagreat", sum := "0a3240d614238128cd6f2596a5b6ed41ada6ae757547b11604ee835440b44132", checked := Tryz.checked }
namespace Rows
def none {H : Type} : Left H := { results := [], args := [] }

/-- 'metronomelaw21.ExecTicks': WHATEVER THE INPUT: true; the input reads as it did. -/
def execTicksSpec : ChangeSpec := { name := "execTicks", fn := fun _ => fun
  | [d1, d2] => { results := [.lit (.bool true)], args := [d1, d2] }
  | _ => none }
def execTicksRow : OpenClaim := { program := "ythcejnfnamhpfaagreat", sum := "0a3240d614238128cd6f2596a5b6ed41ada6ae757547b11604ee835440b44132", func := "metronome/metronomelaw21.ExecTicks", spec := "execTicks", unfollowed := true, recurses := true, apart := false }
def ExecTicksSaid : Prop := execTicksRow.holds Tryz.pinned (OpenSpec.ofChange execTicksSpec)

/-- ITS FALSE NEIGHBOUR: 'it returns false'. Refute it at one input. -/
def execTicksWrong : ChangeSpec := { name := "execTicks", fn := fun _ => fun
  | [d1, d2] => { results := [.lit (.bool false)], args := [d1, d2] }
  | _ => none }
def ExecTicksWrongFalsely : Prop := execTicksRow.holds Tryz.pinned (OpenSpec.ofChange execTicksWrong)

/-- 'metronomelaw21.ExecRuns': WHATEVER THE INPUT: true; the input reads as it did. -/
def execRunsSpec : ChangeSpec := { name := "execRuns", fn := fun _ => fun
  | [d1, d2] => { results := [.lit (.bool true)], args := [d1, d2] }
  | _ => none }
def execRunsRow : OpenClaim := { program := "ythcejnfnamhpfaagreat", sum := "0a3240d614238128cd6f2596a5b6ed41ada6ae757547b11604ee835440b44132", func := "metronome/metronomelaw21.ExecRuns", spec := "execRuns", unfollowed := true, recurses := true, apart := false }
def ExecRunsSaid : Prop := execRunsRow.holds Tryz.pinned (OpenSpec.ofChange execRunsSpec)

/-- ITS FALSE NEIGHBOUR: 'it returns false'. Refute it at one input. -/
def execRunsWrong : ChangeSpec := { name := "execRuns", fn := fun _ => fun
  | [d1, d2] => { results := [.lit (.bool false)], args := [d1, d2] }
  | _ => none }
def ExecRunsWrongFalsely : Prop := execRunsRow.holds Tryz.pinned (OpenSpec.ofChange execRunsWrong)

/-- 'metronomelaw21.ExecBound': WHATEVER THE INPUT: true; the input reads as it did. -/
def execBoundSpec : ChangeSpec := { name := "execBound", fn := fun _ => fun
  | [d1, d2] => { results := [.lit (.bool true)], args := [d1, d2] }
  | _ => none }
def execBoundRow : OpenClaim := { program := "ythcejnfnamhpfaagreat", sum := "0a3240d614238128cd6f2596a5b6ed41ada6ae757547b11604ee835440b44132", func := "metronome/metronomelaw21.ExecBound", spec := "execBound", unfollowed := true, recurses := true, apart := false }
def ExecBoundSaid : Prop := execBoundRow.holds Tryz.pinned (OpenSpec.ofChange execBoundSpec)

/-- ITS FALSE NEIGHBOUR: 'it returns false'. Refute it at one input. -/
def execBoundWrong : ChangeSpec := { name := "execBound", fn := fun _ => fun
  | [d1, d2] => { results := [.lit (.bool false)], args := [d1, d2] }
  | _ => none }
def ExecBoundWrongFalsely : Prop := execBoundRow.holds Tryz.pinned (OpenSpec.ofChange execBoundWrong)

/-- 'metronomelaw21.ExecTwo': WHATEVER THE INPUT: true; the input reads as it did. -/
def execTwoSpec : ChangeSpec := { name := "execTwo", fn := fun _ => fun
  | [d1, d2, d3] => { results := [.lit (.bool true)], args := [d1, d2, d3] }
  | _ => none }
def execTwoRow : OpenClaim := { program := "ythcejnfnamhpfaagreat", sum := "0a3240d614238128cd6f2596a5b6ed41ada6ae757547b11604ee835440b44132", func := "metronome/metronomelaw21.ExecTwo", spec := "execTwo", unfollowed := true, recurses := true, apart := false }
def ExecTwoSaid : Prop := execTwoRow.holds Tryz.pinned (OpenSpec.ofChange execTwoSpec)

/-- ITS FALSE NEIGHBOUR: 'it returns false'. Refute it at one input. -/
def execTwoWrong : ChangeSpec := { name := "execTwo", fn := fun _ => fun
  | [d1, d2, d3] => { results := [.lit (.bool false)], args := [d1, d2, d3] }
  | _ => none }
def ExecTwoWrongFalsely : Prop := execTwoRow.holds Tryz.pinned (OpenSpec.ofChange execTwoWrong)

/- THE SECOND FORM. 'bulk': how many values and letters a reading holds, each counted each time it is reached (what is shared counts as often as it is met; a slice's spare places count too). A statement '..UptoSaid' is the law's where the arguments, and the package variables that the reading takes, are together of bulk at most 1048576: NARROWER than '..Said'. Prove '..Said' where nothing that the law and all that it calls make is longer than what came in: it says more and counts as full. Else prove '..UptoSaid'. A law counts once. -/
mutual
def uptoBulk {H : Type} : DataW H → Nat
  | .lit (.string bytes) => bytes.length + 1
  | .lit _ => 1
  | .nil => 1
  | .ptr d => uptoBulk d + 1
  | .slice elems spare => uptoBulkAll elems + uptoBulkAll spare + 1
  | .agg parts => uptoBulkAll parts + 1
  | .iface _ d => uptoBulk d + 1
  | .map entries => uptoBulkEntries entries + 1
  | .held _ => 1
def uptoBulkAll {H : Type} : List (DataW H) → Nat
  | [] => 0
  | d :: r => uptoBulk d + uptoBulkAll r
def uptoBulkEntries {H : Type} : List (Lit × DataW H) → Nat
  | [] => 0
  | x :: r => uptoBulkEntry x + uptoBulkEntries r
def uptoBulkEntry {H : Type} : Lit × DataW H → Nat
  | (.string bytes, d) => bytes.length + uptoBulk d + 1
  | (_, d) => uptoBulk d + 1
 end
def uptoSmall : (H : Type) → List (DataW H) → Bool := fun _ ds => decide (uptoBulkAll ds ≤ 1048576)
def OpenSpec.upto (s : _root_.Go.ChangeSpec) : _root_.Go.OpenSpec := { _root_.Go.OpenSpec.ofChange s with cond := some uptoSmall }

/-- 'metronomelaw21.ExecTicks', WHERE WHAT IT READS IS OF BULK AT MOST 1048576: true; the input reads as it did. -/
def execTicksUptoRow : OpenClaim := { program := "ythcejnfnamhpfaagreat", sum := "0a3240d614238128cd6f2596a5b6ed41ada6ae757547b11604ee835440b44132", func := "metronome/metronomelaw21.ExecTicks", spec := "execTicks", unfollowed := true, recurses := true, apart := false, narrowed := true }
def ExecTicksUptoSaid : Prop := execTicksUptoRow.holds Tryz.pinned (OpenSpec.upto execTicksSpec)

/-- 'metronomelaw21.ExecRuns', WHERE WHAT IT READS IS OF BULK AT MOST 1048576: true; the input reads as it did. -/
def execRunsUptoRow : OpenClaim := { program := "ythcejnfnamhpfaagreat", sum := "0a3240d614238128cd6f2596a5b6ed41ada6ae757547b11604ee835440b44132", func := "metronome/metronomelaw21.ExecRuns", spec := "execRuns", unfollowed := true, recurses := true, apart := false, narrowed := true }
def ExecRunsUptoSaid : Prop := execRunsUptoRow.holds Tryz.pinned (OpenSpec.upto execRunsSpec)

/-- 'metronomelaw21.ExecBound', WHERE WHAT IT READS IS OF BULK AT MOST 1048576: true; the input reads as it did. -/
def execBoundUptoRow : OpenClaim := { program := "ythcejnfnamhpfaagreat", sum := "0a3240d614238128cd6f2596a5b6ed41ada6ae757547b11604ee835440b44132", func := "metronome/metronomelaw21.ExecBound", spec := "execBound", unfollowed := true, recurses := true, apart := false, narrowed := true }
def ExecBoundUptoSaid : Prop := execBoundUptoRow.holds Tryz.pinned (OpenSpec.upto execBoundSpec)

/-- 'metronomelaw21.ExecTwo', WHERE WHAT IT READS IS OF BULK AT MOST 1048576: true; the input reads as it did. -/
def execTwoUptoRow : OpenClaim := { program := "ythcejnfnamhpfaagreat", sum := "0a3240d614238128cd6f2596a5b6ed41ada6ae757547b11604ee835440b44132", func := "metronome/metronomelaw21.ExecTwo", spec := "execTwo", unfollowed := true, recurses := true, apart := false, narrowed := true }
def ExecTwoUptoSaid : Prop := execTwoUptoRow.holds Tryz.pinned (OpenSpec.upto execTwoSpec)

end Rows
end Go.Proofs.YthcejnfnamhpfaaGreat
