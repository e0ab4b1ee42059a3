/-
  No cell of these rows narrows 'for every input' (looked for: loops, veiled, ifaces, maps, wideKeys, modest, calm, conditions, laid).
  DERIVED. THE GIVEN ROWS OF THIS SEAT. 4 by the template 'for every input the law returns true; each argument reads behind the call as it read before'; 0 by the template 'total and deterministic' (their statements: YtlehpcbhfdnkdaaTotals.lean).
  GIVEN WITH THE SEED: the statements are not yours to turn. If you find one false, say at which input.
  Laid BY PROGRAM, IN A SANDBOX (cutbox-rows.mjs): the forced cells as the released guide's own fill.sh prints them over the translation 052c8e3fb7cae3f1… (all of the seat's roots in one cut). By AI agents, Wed Nov 11 2026. No macro, syntax, notation, axiom, sorry.
-/
import Derived.Test.YtlehpcbhfdnkdaaChecked
import GoSem.Claim
import GoSem.ClaimJoined
import GoSem.ClaimMapViews
import Derived.JoinedTies
import Derived.KernelRfl
namespace Go.Proofs.Ytlehpcbhfdnkdaa
/- THE CELL 'sum', in the pinned program and in every row, IS THE sha256 OF THE DUMP (.gsa) THAT YtlehpcbhfdnkdaaProg.lean LOADS. Nothing in Lean hashes anything: it is a label: what it is worth is what the hold of that sum in a sandbox is worth. -/
noncomputable def Try.pinned : Pinned := { name := "ytlehpcbhfdnkdaa", sum := "052c8e3fb7cae3f11558c30bf270835e185cf6946a4f476dff92f8e947e6a4a7", checked := Try.checked }
namespace Rows
def none {H : Type} : Left H := { results := [], args := [] }

/-- 'blinktreelaw8.NodeRoundTrip': WHATEVER THE INPUT: true; the input reads as it did. -/
def nodeRoundTripSpec : ChangeSpec := { name := "nodeRoundTrip", fn := fun _ => fun
  | [d1, d2, d3, d4, d5] => { results := [.lit (.bool true)], args := [d1, d2, d3, d4, d5] }
  | _ => none }
def nodeRoundTripRow : OpenClaim := { program := "ytlehpcbhfdnkdaa", sum := "052c8e3fb7cae3f11558c30bf270835e185cf6946a4f476dff92f8e947e6a4a7", func := "blinktree/blinktreelaw8.NodeRoundTrip", spec := "nodeRoundTrip", apart := false }
def NodeRoundTripSaid : Prop := nodeRoundTripRow.holds Try.pinned (OpenSpec.ofChange nodeRoundTripSpec)

/-- ITS FALSE NEIGHBOUR: 'it returns false'. Refute it at one input. -/
def nodeRoundTripWrong : ChangeSpec := { name := "nodeRoundTrip", fn := fun _ => fun
  | [d1, d2, d3, d4, d5] => { results := [.lit (.bool false)], args := [d1, d2, d3, d4, d5] }
  | _ => none }
def NodeRoundTripWrongFalsely : Prop := nodeRoundTripRow.holds Try.pinned (OpenSpec.ofChange nodeRoundTripWrong)

/-- 'blinktreelaw8.NodeReadsAreValidated': WHATEVER THE INPUT: true; the input reads as it did. -/
def nodeReadsAreValidatedSpec : ChangeSpec := { name := "nodeReadsAreValidated", fn := fun _ => fun
  | [d1, d2, d3] => { results := [.lit (.bool true)], args := [d1, d2, d3] }
  | _ => none }
def nodeReadsAreValidatedRow : OpenClaim := { program := "ytlehpcbhfdnkdaa", sum := "052c8e3fb7cae3f11558c30bf270835e185cf6946a4f476dff92f8e947e6a4a7", func := "blinktree/blinktreelaw8.NodeReadsAreValidated", spec := "nodeReadsAreValidated", apart := false }
def NodeReadsAreValidatedSaid : Prop := nodeReadsAreValidatedRow.holds Try.pinned (OpenSpec.ofChange nodeReadsAreValidatedSpec)

/-- ITS FALSE NEIGHBOUR: 'it returns false'. Refute it at one input. -/
def nodeReadsAreValidatedWrong : ChangeSpec := { name := "nodeReadsAreValidated", fn := fun _ => fun
  | [d1, d2, d3] => { results := [.lit (.bool false)], args := [d1, d2, d3] }
  | _ => none }
def NodeReadsAreValidatedWrongFalsely : Prop := nodeReadsAreValidatedRow.holds Try.pinned (OpenSpec.ofChange nodeReadsAreValidatedWrong)

/-- 'blinktreelaw8.NodeReadsFinish': WHATEVER THE INPUT: true; the input reads as it did. -/
def nodeReadsFinishSpec : ChangeSpec := { name := "nodeReadsFinish", fn := fun _ => fun
  | [d1, d2, d3, d4] => { results := [.lit (.bool true)], args := [d1, d2, d3, d4] }
  | _ => none }
def nodeReadsFinishRow : OpenClaim := { program := "ytlehpcbhfdnkdaa", sum := "052c8e3fb7cae3f11558c30bf270835e185cf6946a4f476dff92f8e947e6a4a7", func := "blinktree/blinktreelaw8.NodeReadsFinish", spec := "nodeReadsFinish", apart := false }
def NodeReadsFinishSaid : Prop := nodeReadsFinishRow.holds Try.pinned (OpenSpec.ofChange nodeReadsFinishSpec)

/-- ITS FALSE NEIGHBOUR: 'it returns false'. Refute it at one input. -/
def nodeReadsFinishWrong : ChangeSpec := { name := "nodeReadsFinish", fn := fun _ => fun
  | [d1, d2, d3, d4] => { results := [.lit (.bool false)], args := [d1, d2, d3, d4] }
  | _ => none }
def NodeReadsFinishWrongFalsely : Prop := nodeReadsFinishRow.holds Try.pinned (OpenSpec.ofChange nodeReadsFinishWrong)

/-- 'blinktreelaw8.NodeWriteStages': WHATEVER THE INPUT: true; the input reads as it did. -/
def nodeWriteStagesSpec : ChangeSpec := { name := "nodeWriteStages", fn := fun _ => fun
  | [d1, d2, d3, d4] => { results := [.lit (.bool true)], args := [d1, d2, d3, d4] }
  | _ => none }
def nodeWriteStagesRow : OpenClaim := { program := "ytlehpcbhfdnkdaa", sum := "052c8e3fb7cae3f11558c30bf270835e185cf6946a4f476dff92f8e947e6a4a7", func := "blinktree/blinktreelaw8.NodeWriteStages", spec := "nodeWriteStages", apart := false }
def NodeWriteStagesSaid : Prop := nodeWriteStagesRow.holds Try.pinned (OpenSpec.ofChange nodeWriteStagesSpec)

/-- ITS FALSE NEIGHBOUR: 'it returns false'. Refute it at one input. -/
def nodeWriteStagesWrong : ChangeSpec := { name := "nodeWriteStages", fn := fun _ => fun
  | [d1, d2, d3, d4] => { results := [.lit (.bool false)], args := [d1, d2, d3, d4] }
  | _ => none }
def NodeWriteStagesWrongFalsely : Prop := nodeWriteStagesRow.holds Try.pinned (OpenSpec.ofChange nodeWriteStagesWrong)

/- THE SECOND FORM. 'bulk': how many values and letters a reading holds, each counted each time it is reached (what is shared counts as often as it is met; a slice's spare places count too). A statement '..UptoSaid' is the law's where the arguments, and the package variables that the reading takes, are together of bulk at most 1048576: NARROWER than '..Said'. Prove '..Said' where nothing that the law and all that it calls make is longer than what came in: it says more and counts as full. Else prove '..UptoSaid'. A law counts once. -/
mutual
def uptoBulk {H : Type} : DataW H → Nat
  | .lit (.string bytes) => bytes.length + 1
  | .lit _ => 1
  | .nil => 1
  | .ptr d => uptoBulk d + 1
  | .slice elems spare => uptoBulkAll elems + uptoBulkAll spare + 1
  | .agg parts => uptoBulkAll parts + 1
  | .iface _ d => uptoBulk d + 1
  | .map entries => uptoBulkEntries entries + 1
  | .held _ => 1
def uptoBulkAll {H : Type} : List (DataW H) → Nat
  | [] => 0
  | d :: r => uptoBulk d + uptoBulkAll r
def uptoBulkEntries {H : Type} : List (Lit × DataW H) → Nat
  | [] => 0
  | x :: r => uptoBulkEntry x + uptoBulkEntries r
def uptoBulkEntry {H : Type} : Lit × DataW H → Nat
  | (.string bytes, d) => bytes.length + uptoBulk d + 1
  | (_, d) => uptoBulk d + 1
 end
def uptoSmall : (H : Type) → List (DataW H) → Bool := fun _ ds => decide (uptoBulkAll ds ≤ 1048576)
def OpenSpec.upto (s : _root_.Go.ChangeSpec) : _root_.Go.OpenSpec := { _root_.Go.OpenSpec.ofChange s with cond := some uptoSmall }

/-- 'blinktreelaw8.NodeRoundTrip', WHERE WHAT IT READS IS OF BULK AT MOST 1048576: true; the input reads as it did. -/
def nodeRoundTripUptoRow : OpenClaim := { program := "ytlehpcbhfdnkdaa", sum := "052c8e3fb7cae3f11558c30bf270835e185cf6946a4f476dff92f8e947e6a4a7", func := "blinktree/blinktreelaw8.NodeRoundTrip", spec := "nodeRoundTrip", apart := false, narrowed := true }
def NodeRoundTripUptoSaid : Prop := nodeRoundTripUptoRow.holds Try.pinned (OpenSpec.upto nodeRoundTripSpec)

/-- 'blinktreelaw8.NodeReadsAreValidated', WHERE WHAT IT READS IS OF BULK AT MOST 1048576: true; the input reads as it did. -/
def nodeReadsAreValidatedUptoRow : OpenClaim := { program := "ytlehpcbhfdnkdaa", sum := "052c8e3fb7cae3f11558c30bf270835e185cf6946a4f476dff92f8e947e6a4a7", func := "blinktree/blinktreelaw8.NodeReadsAreValidated", spec := "nodeReadsAreValidated", apart := false, narrowed := true }
def NodeReadsAreValidatedUptoSaid : Prop := nodeReadsAreValidatedUptoRow.holds Try.pinned (OpenSpec.upto nodeReadsAreValidatedSpec)

/-- 'blinktreelaw8.NodeReadsFinish', WHERE WHAT IT READS IS OF BULK AT MOST 1048576: true; the input reads as it did. -/
def nodeReadsFinishUptoRow : OpenClaim := { program := "ytlehpcbhfdnkdaa", sum := "052c8e3fb7cae3f11558c30bf270835e185cf6946a4f476dff92f8e947e6a4a7", func := "blinktree/blinktreelaw8.NodeReadsFinish", spec := "nodeReadsFinish", apart := false, narrowed := true }
def NodeReadsFinishUptoSaid : Prop := nodeReadsFinishUptoRow.holds Try.pinned (OpenSpec.upto nodeReadsFinishSpec)

/-- 'blinktreelaw8.NodeWriteStages', WHERE WHAT IT READS IS OF BULK AT MOST 1048576: true; the input reads as it did. -/
def nodeWriteStagesUptoRow : OpenClaim := { program := "ytlehpcbhfdnkdaa", sum := "052c8e3fb7cae3f11558c30bf270835e185cf6946a4f476dff92f8e947e6a4a7", func := "blinktree/blinktreelaw8.NodeWriteStages", spec := "nodeWriteStages", apart := false, narrowed := true }
def NodeWriteStagesUptoSaid : Prop := nodeWriteStagesUptoRow.holds Try.pinned (OpenSpec.upto nodeWriteStagesSpec)

end Rows
end Go.Proofs.Ytlehpcbhfdnkdaa
