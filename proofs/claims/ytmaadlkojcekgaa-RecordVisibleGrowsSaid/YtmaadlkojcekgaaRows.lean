/-
  No cell of these rows narrows 'for every input' (looked for: loops, veiled, ifaces, maps, wideKeys, modest, calm, conditions, laid).
  DERIVED. THE GIVEN ROWS OF THIS SEAT. 6 by the template 'for every input the law returns true; each argument reads behind the call as it read before'; 0 by the template 'total and deterministic' (their statements: YtmaadlkojcekgaaTotals.lean).
  GIVEN WITH THE SEED: the statements are not yours to turn. If you find one false, say at which input.
  Laid BY PROGRAM, IN A SANDBOX (cutbox-rows.mjs): the forced cells as the released guide's own fill.sh prints them over the translation 686bb6ecc60b02b2… (all of the seat's roots in one cut). By AI agents, Wed Nov 11 2026. No macro, syntax, notation, axiom, sorry.
-/
import Derived.Test.YtmaadlkojcekgaaChecked
import GoSem.Claim
import GoSem.ClaimJoined
import GoSem.ClaimMapViews
import Derived.JoinedTies
import Derived.KernelRfl
namespace Go.Proofs.Ytmaadlkojcekgaa
/- THE CELL 'sum', in the pinned program and in every row, IS THE sha256 OF THE DUMP (.gsa) THAT YtmaadlkojcekgaaProg.lean LOADS. Nothing in Lean hashes anything: it is a label: what it is worth is what the hold of that sum in a sandbox is worth. -/
noncomputable def Try.pinned : Pinned := { name := "ytmaadlkojcekgaa", sum := "686bb6ecc60b02b266171839abec301f1fd6dfd28ddc9ca50d10e4ce29e22d28", checked := Try.checked }
namespace Rows
def none {H : Type} : Left H := { results := [], args := [] }

/-- 'blinktreelaw9.RecordAgrees': WHATEVER THE INPUT: true; the input reads as it did. -/
def recordAgreesSpec : ChangeSpec := { name := "recordAgrees", fn := fun _ => fun
  | [d1, d2, d3] => { results := [.lit (.bool true)], args := [d1, d2, d3] }
  | _ => none }
def recordAgreesRow : OpenClaim := { program := "ytmaadlkojcekgaa", sum := "686bb6ecc60b02b266171839abec301f1fd6dfd28ddc9ca50d10e4ce29e22d28", func := "blinktree/blinktreelaw9.RecordAgrees", spec := "recordAgrees", apart := false }
def RecordAgreesSaid : Prop := recordAgreesRow.holds Try.pinned (OpenSpec.ofChange recordAgreesSpec)

/-- ITS FALSE NEIGHBOUR: 'it returns false'. Refute it at one input. -/
def recordAgreesWrong : ChangeSpec := { name := "recordAgrees", fn := fun _ => fun
  | [d1, d2, d3] => { results := [.lit (.bool false)], args := [d1, d2, d3] }
  | _ => none }
def RecordAgreesWrongFalsely : Prop := recordAgreesRow.holds Try.pinned (OpenSpec.ofChange recordAgreesWrong)

/-- 'blinktreelaw9.RecordCutKeepsVisible': WHATEVER THE INPUT: true; the input reads as it did. -/
def recordCutKeepsVisibleSpec : ChangeSpec := { name := "recordCutKeepsVisible", fn := fun _ => fun
  | [d1, d2, d3, d4] => { results := [.lit (.bool true)], args := [d1, d2, d3, d4] }
  | _ => none }
def recordCutKeepsVisibleRow : OpenClaim := { program := "ytmaadlkojcekgaa", sum := "686bb6ecc60b02b266171839abec301f1fd6dfd28ddc9ca50d10e4ce29e22d28", func := "blinktree/blinktreelaw9.RecordCutKeepsVisible", spec := "recordCutKeepsVisible", apart := false }
def RecordCutKeepsVisibleSaid : Prop := recordCutKeepsVisibleRow.holds Try.pinned (OpenSpec.ofChange recordCutKeepsVisibleSpec)

/-- ITS FALSE NEIGHBOUR: 'it returns false'. Refute it at one input. -/
def recordCutKeepsVisibleWrong : ChangeSpec := { name := "recordCutKeepsVisible", fn := fun _ => fun
  | [d1, d2, d3, d4] => { results := [.lit (.bool false)], args := [d1, d2, d3, d4] }
  | _ => none }
def RecordCutKeepsVisibleWrongFalsely : Prop := recordCutKeepsVisibleRow.holds Try.pinned (OpenSpec.ofChange recordCutKeepsVisibleWrong)

/-- 'blinktreelaw9.RecordDeadIsInvisible': WHATEVER THE INPUT: true; the input reads as it did. -/
def recordDeadIsInvisibleSpec : ChangeSpec := { name := "recordDeadIsInvisible", fn := fun _ => fun
  | [d1, d2, d3, d4] => { results := [.lit (.bool true)], args := [d1, d2, d3, d4] }
  | _ => none }
def recordDeadIsInvisibleRow : OpenClaim := { program := "ytmaadlkojcekgaa", sum := "686bb6ecc60b02b266171839abec301f1fd6dfd28ddc9ca50d10e4ce29e22d28", func := "blinktree/blinktreelaw9.RecordDeadIsInvisible", spec := "recordDeadIsInvisible", apart := false }
def RecordDeadIsInvisibleSaid : Prop := recordDeadIsInvisibleRow.holds Try.pinned (OpenSpec.ofChange recordDeadIsInvisibleSpec)

/-- ITS FALSE NEIGHBOUR: 'it returns false'. Refute it at one input. -/
def recordDeadIsInvisibleWrong : ChangeSpec := { name := "recordDeadIsInvisible", fn := fun _ => fun
  | [d1, d2, d3, d4] => { results := [.lit (.bool false)], args := [d1, d2, d3, d4] }
  | _ => none }
def RecordDeadIsInvisibleWrongFalsely : Prop := recordDeadIsInvisibleRow.holds Try.pinned (OpenSpec.ofChange recordDeadIsInvisibleWrong)

/-- 'blinktreelaw9.RecordNewest': WHATEVER THE INPUT: true; the input reads as it did. -/
def recordNewestSpec : ChangeSpec := { name := "recordNewest", fn := fun _ => fun
  | [d1, d2, d3] => { results := [.lit (.bool true)], args := [d1, d2, d3] }
  | _ => none }
def recordNewestRow : OpenClaim := { program := "ytmaadlkojcekgaa", sum := "686bb6ecc60b02b266171839abec301f1fd6dfd28ddc9ca50d10e4ce29e22d28", func := "blinktree/blinktreelaw9.RecordNewest", spec := "recordNewest", apart := false }
def RecordNewestSaid : Prop := recordNewestRow.holds Try.pinned (OpenSpec.ofChange recordNewestSpec)

/-- ITS FALSE NEIGHBOUR: 'it returns false'. Refute it at one input. -/
def recordNewestWrong : ChangeSpec := { name := "recordNewest", fn := fun _ => fun
  | [d1, d2, d3] => { results := [.lit (.bool false)], args := [d1, d2, d3] }
  | _ => none }
def RecordNewestWrongFalsely : Prop := recordNewestRow.holds Try.pinned (OpenSpec.ofChange recordNewestWrong)

/-- 'blinktreelaw9.RecordVisibleGrows': WHATEVER THE INPUT: true; the input reads as it did. -/
def recordVisibleGrowsSpec : ChangeSpec := { name := "recordVisibleGrows", fn := fun _ => fun
  | [d1, d2, d3, d4] => { results := [.lit (.bool true)], args := [d1, d2, d3, d4] }
  | _ => none }
def recordVisibleGrowsRow : OpenClaim := { program := "ytmaadlkojcekgaa", sum := "686bb6ecc60b02b266171839abec301f1fd6dfd28ddc9ca50d10e4ce29e22d28", func := "blinktree/blinktreelaw9.RecordVisibleGrows", spec := "recordVisibleGrows", apart := false }
def RecordVisibleGrowsSaid : Prop := recordVisibleGrowsRow.holds Try.pinned (OpenSpec.ofChange recordVisibleGrowsSpec)

/-- ITS FALSE NEIGHBOUR: 'it returns false'. Refute it at one input. -/
def recordVisibleGrowsWrong : ChangeSpec := { name := "recordVisibleGrows", fn := fun _ => fun
  | [d1, d2, d3, d4] => { results := [.lit (.bool false)], args := [d1, d2, d3, d4] }
  | _ => none }
def RecordVisibleGrowsWrongFalsely : Prop := recordVisibleGrowsRow.holds Try.pinned (OpenSpec.ofChange recordVisibleGrowsWrong)

/-- 'blinktreelaw9.RecordCutsCompose': WHATEVER THE INPUT: true; the input reads as it did. -/
def recordCutsComposeSpec : ChangeSpec := { name := "recordCutsCompose", fn := fun _ => fun
  | [d1, d2, d3, d4] => { results := [.lit (.bool true)], args := [d1, d2, d3, d4] }
  | _ => none }
def recordCutsComposeRow : OpenClaim := { program := "ytmaadlkojcekgaa", sum := "686bb6ecc60b02b266171839abec301f1fd6dfd28ddc9ca50d10e4ce29e22d28", func := "blinktree/blinktreelaw9.RecordCutsCompose", spec := "recordCutsCompose", apart := false }
def RecordCutsComposeSaid : Prop := recordCutsComposeRow.holds Try.pinned (OpenSpec.ofChange recordCutsComposeSpec)

/-- ITS FALSE NEIGHBOUR: 'it returns false'. Refute it at one input. -/
def recordCutsComposeWrong : ChangeSpec := { name := "recordCutsCompose", fn := fun _ => fun
  | [d1, d2, d3, d4] => { results := [.lit (.bool false)], args := [d1, d2, d3, d4] }
  | _ => none }
def RecordCutsComposeWrongFalsely : Prop := recordCutsComposeRow.holds Try.pinned (OpenSpec.ofChange recordCutsComposeWrong)

/- THE SECOND FORM. 'bulk': how many values and letters a reading holds, each counted each time it is reached (what is shared counts as often as it is met; a slice's spare places count too). A statement '..UptoSaid' is the law's where the arguments, and the package variables that the reading takes, are together of bulk at most 1048576: NARROWER than '..Said'. Prove '..Said' where nothing that the law and all that it calls make is longer than what came in: it says more and counts as full. Else prove '..UptoSaid'. A law counts once. -/
mutual
def uptoBulk {H : Type} : DataW H → Nat
  | .lit (.string bytes) => bytes.length + 1
  | .lit _ => 1
  | .nil => 1
  | .ptr d => uptoBulk d + 1
  | .slice elems spare => uptoBulkAll elems + uptoBulkAll spare + 1
  | .agg parts => uptoBulkAll parts + 1
  | .iface _ d => uptoBulk d + 1
  | .map entries => uptoBulkEntries entries + 1
  | .held _ => 1
def uptoBulkAll {H : Type} : List (DataW H) → Nat
  | [] => 0
  | d :: r => uptoBulk d + uptoBulkAll r
def uptoBulkEntries {H : Type} : List (Lit × DataW H) → Nat
  | [] => 0
  | x :: r => uptoBulkEntry x + uptoBulkEntries r
def uptoBulkEntry {H : Type} : Lit × DataW H → Nat
  | (.string bytes, d) => bytes.length + uptoBulk d + 1
  | (_, d) => uptoBulk d + 1
 end
def uptoSmall : (H : Type) → List (DataW H) → Bool := fun _ ds => decide (uptoBulkAll ds ≤ 1048576)
def OpenSpec.upto (s : _root_.Go.ChangeSpec) : _root_.Go.OpenSpec := { _root_.Go.OpenSpec.ofChange s with cond := some uptoSmall }

/-- 'blinktreelaw9.RecordAgrees', WHERE WHAT IT READS IS OF BULK AT MOST 1048576: true; the input reads as it did. -/
def recordAgreesUptoRow : OpenClaim := { program := "ytmaadlkojcekgaa", sum := "686bb6ecc60b02b266171839abec301f1fd6dfd28ddc9ca50d10e4ce29e22d28", func := "blinktree/blinktreelaw9.RecordAgrees", spec := "recordAgrees", apart := false, narrowed := true }
def RecordAgreesUptoSaid : Prop := recordAgreesUptoRow.holds Try.pinned (OpenSpec.upto recordAgreesSpec)

/-- 'blinktreelaw9.RecordCutKeepsVisible', WHERE WHAT IT READS IS OF BULK AT MOST 1048576: true; the input reads as it did. -/
def recordCutKeepsVisibleUptoRow : OpenClaim := { program := "ytmaadlkojcekgaa", sum := "686bb6ecc60b02b266171839abec301f1fd6dfd28ddc9ca50d10e4ce29e22d28", func := "blinktree/blinktreelaw9.RecordCutKeepsVisible", spec := "recordCutKeepsVisible", apart := false, narrowed := true }
def RecordCutKeepsVisibleUptoSaid : Prop := recordCutKeepsVisibleUptoRow.holds Try.pinned (OpenSpec.upto recordCutKeepsVisibleSpec)

/-- 'blinktreelaw9.RecordDeadIsInvisible', WHERE WHAT IT READS IS OF BULK AT MOST 1048576: true; the input reads as it did. -/
def recordDeadIsInvisibleUptoRow : OpenClaim := { program := "ytmaadlkojcekgaa", sum := "686bb6ecc60b02b266171839abec301f1fd6dfd28ddc9ca50d10e4ce29e22d28", func := "blinktree/blinktreelaw9.RecordDeadIsInvisible", spec := "recordDeadIsInvisible", apart := false, narrowed := true }
def RecordDeadIsInvisibleUptoSaid : Prop := recordDeadIsInvisibleUptoRow.holds Try.pinned (OpenSpec.upto recordDeadIsInvisibleSpec)

/-- 'blinktreelaw9.RecordNewest', WHERE WHAT IT READS IS OF BULK AT MOST 1048576: true; the input reads as it did. -/
def recordNewestUptoRow : OpenClaim := { program := "ytmaadlkojcekgaa", sum := "686bb6ecc60b02b266171839abec301f1fd6dfd28ddc9ca50d10e4ce29e22d28", func := "blinktree/blinktreelaw9.RecordNewest", spec := "recordNewest", apart := false, narrowed := true }
def RecordNewestUptoSaid : Prop := recordNewestUptoRow.holds Try.pinned (OpenSpec.upto recordNewestSpec)

/-- 'blinktreelaw9.RecordVisibleGrows', WHERE WHAT IT READS IS OF BULK AT MOST 1048576: true; the input reads as it did. -/
def recordVisibleGrowsUptoRow : OpenClaim := { program := "ytmaadlkojcekgaa", sum := "686bb6ecc60b02b266171839abec301f1fd6dfd28ddc9ca50d10e4ce29e22d28", func := "blinktree/blinktreelaw9.RecordVisibleGrows", spec := "recordVisibleGrows", apart := false, narrowed := true }
def RecordVisibleGrowsUptoSaid : Prop := recordVisibleGrowsUptoRow.holds Try.pinned (OpenSpec.upto recordVisibleGrowsSpec)

/-- 'blinktreelaw9.RecordCutsCompose', WHERE WHAT IT READS IS OF BULK AT MOST 1048576: true; the input reads as it did. -/
def recordCutsComposeUptoRow : OpenClaim := { program := "ytmaadlkojcekgaa", sum := "686bb6ecc60b02b266171839abec301f1fd6dfd28ddc9ca50d10e4ce29e22d28", func := "blinktree/blinktreelaw9.RecordCutsCompose", spec := "recordCutsCompose", apart := false, narrowed := true }
def RecordCutsComposeUptoSaid : Prop := recordCutsComposeUptoRow.holds Try.pinned (OpenSpec.upto recordCutsComposeSpec)

end Rows
end Go.Proofs.Ytmaadlkojcekgaa
