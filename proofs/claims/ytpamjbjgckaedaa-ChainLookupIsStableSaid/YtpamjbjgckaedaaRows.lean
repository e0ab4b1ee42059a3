/-
  No cell of these rows narrows 'for every input' (looked for: loops, veiled, ifaces, maps, wideKeys, modest, calm, conditions, laid).
  DERIVED. THE GIVEN ROWS OF THIS SEAT. 4 by the template 'for every input the law returns true; each argument reads behind the call as it read before'; 0 by the template 'total and deterministic' (their statements: YtpamjbjgckaedaaTotals.lean).
  GIVEN WITH THE SEED: the statements are not yours to turn. If you find one false, say at which input.
  Laid BY PROGRAM, IN A SANDBOX (cutbox-rows.mjs): the forced cells as the released guide's own fill.sh prints them over the translation 93feb73e7c773b11… (all of the seat's roots in one cut). By AI agents, Wed Nov 11 2026. No macro, syntax, notation, axiom, sorry.
-/
import Derived.Test.YtpamjbjgckaedaaChecked
import GoSem.Claim
import GoSem.ClaimJoined
import GoSem.ClaimMapViews
import Derived.JoinedTies
import Derived.KernelRfl
namespace Go.Proofs.Ytpamjbjgckaedaa
/- THE CELL 'sum', in the pinned program and in every row, IS THE sha256 OF THE DUMP (.gsa) THAT YtpamjbjgckaedaaProg.lean LOADS. Nothing in Lean hashes anything: it is a label: what it is worth is what the hold of that sum in a sandbox is worth. -/
noncomputable def Try.pinned : Pinned := { name := "ytpamjbjgckaedaa", sum := "93feb73e7c773b11e4a13e507dd1f064322b43b13280b99e0b6b49219ba75ab3", checked := Try.checked }
namespace Rows
def none {H : Type} : Left H := { results := [], args := [] }

/-- 'blinktreelaw10.ChainBuilds': WHATEVER THE INPUT: true; the input reads as it did. -/
def chainBuildsSpec : ChangeSpec := { name := "chainBuilds", fn := fun _ => fun
  | [d1, d2] => { results := [.lit (.bool true)], args := [d1, d2] }
  | _ => none }
def chainBuildsRow : OpenClaim := { program := "ytpamjbjgckaedaa", sum := "93feb73e7c773b11e4a13e507dd1f064322b43b13280b99e0b6b49219ba75ab3", func := "blinktree/blinktreelaw10.ChainBuilds", spec := "chainBuilds", apart := false }
def ChainBuildsSaid : Prop := chainBuildsRow.holds Try.pinned (OpenSpec.ofChange chainBuildsSpec)

/-- ITS FALSE NEIGHBOUR: 'it returns false'. Refute it at one input. -/
def chainBuildsWrong : ChangeSpec := { name := "chainBuilds", fn := fun _ => fun
  | [d1, d2] => { results := [.lit (.bool false)], args := [d1, d2] }
  | _ => none }
def ChainBuildsWrongFalsely : Prop := chainBuildsRow.holds Try.pinned (OpenSpec.ofChange chainBuildsWrong)

/-- 'blinktreelaw10.ChainLookupIsStable': WHATEVER THE INPUT: true; the input reads as it did. -/
def chainLookupIsStableSpec : ChangeSpec := { name := "chainLookupIsStable", fn := fun _ => fun
  | [d1, d2, d3, d4] => { results := [.lit (.bool true)], args := [d1, d2, d3, d4] }
  | _ => none }
def chainLookupIsStableRow : OpenClaim := { program := "ytpamjbjgckaedaa", sum := "93feb73e7c773b11e4a13e507dd1f064322b43b13280b99e0b6b49219ba75ab3", func := "blinktree/blinktreelaw10.ChainLookupIsStable", spec := "chainLookupIsStable", apart := false }
def ChainLookupIsStableSaid : Prop := chainLookupIsStableRow.holds Try.pinned (OpenSpec.ofChange chainLookupIsStableSpec)

/-- ITS FALSE NEIGHBOUR: 'it returns false'. Refute it at one input. -/
def chainLookupIsStableWrong : ChangeSpec := { name := "chainLookupIsStable", fn := fun _ => fun
  | [d1, d2, d3, d4] => { results := [.lit (.bool false)], args := [d1, d2, d3, d4] }
  | _ => none }
def ChainLookupIsStableWrongFalsely : Prop := chainLookupIsStableRow.holds Try.pinned (OpenSpec.ofChange chainLookupIsStableWrong)

/-- 'blinktreelaw10.ChainRestoreUndoes': WHATEVER THE INPUT: true; the input reads as it did. -/
def chainRestoreUndoesSpec : ChangeSpec := { name := "chainRestoreUndoes", fn := fun _ => fun
  | [d1, d2, d3, d4] => { results := [.lit (.bool true)], args := [d1, d2, d3, d4] }
  | _ => none }
def chainRestoreUndoesRow : OpenClaim := { program := "ytpamjbjgckaedaa", sum := "93feb73e7c773b11e4a13e507dd1f064322b43b13280b99e0b6b49219ba75ab3", func := "blinktree/blinktreelaw10.ChainRestoreUndoes", spec := "chainRestoreUndoes", apart := false }
def ChainRestoreUndoesSaid : Prop := chainRestoreUndoesRow.holds Try.pinned (OpenSpec.ofChange chainRestoreUndoesSpec)

/-- ITS FALSE NEIGHBOUR: 'it returns false'. Refute it at one input. -/
def chainRestoreUndoesWrong : ChangeSpec := { name := "chainRestoreUndoes", fn := fun _ => fun
  | [d1, d2, d3, d4] => { results := [.lit (.bool false)], args := [d1, d2, d3, d4] }
  | _ => none }
def ChainRestoreUndoesWrongFalsely : Prop := chainRestoreUndoesRow.holds Try.pinned (OpenSpec.ofChange chainRestoreUndoesWrong)

/-- 'blinktreelaw10.ChainTruncatesTwice': WHATEVER THE INPUT: true; the input reads as it did. -/
def chainTruncatesTwiceSpec : ChangeSpec := { name := "chainTruncatesTwice", fn := fun _ => fun
  | [d1, d2, d3] => { results := [.lit (.bool true)], args := [d1, d2, d3] }
  | _ => none }
def chainTruncatesTwiceRow : OpenClaim := { program := "ytpamjbjgckaedaa", sum := "93feb73e7c773b11e4a13e507dd1f064322b43b13280b99e0b6b49219ba75ab3", func := "blinktree/blinktreelaw10.ChainTruncatesTwice", spec := "chainTruncatesTwice", apart := false }
def ChainTruncatesTwiceSaid : Prop := chainTruncatesTwiceRow.holds Try.pinned (OpenSpec.ofChange chainTruncatesTwiceSpec)

/-- ITS FALSE NEIGHBOUR: 'it returns false'. Refute it at one input. -/
def chainTruncatesTwiceWrong : ChangeSpec := { name := "chainTruncatesTwice", fn := fun _ => fun
  | [d1, d2, d3] => { results := [.lit (.bool false)], args := [d1, d2, d3] }
  | _ => none }
def ChainTruncatesTwiceWrongFalsely : Prop := chainTruncatesTwiceRow.holds Try.pinned (OpenSpec.ofChange chainTruncatesTwiceWrong)

/- THE SECOND FORM. 'bulk': how many values and letters a reading holds, each counted each time it is reached (what is shared counts as often as it is met; a slice's spare places count too). A statement '..UptoSaid' is the law's where the arguments, and the package variables that the reading takes, are together of bulk at most 1048576: NARROWER than '..Said'. Prove '..Said' where nothing that the law and all that it calls make is longer than what came in: it says more and counts as full. Else prove '..UptoSaid'. A law counts once. -/
mutual
def uptoBulk {H : Type} : DataW H → Nat
  | .lit (.string bytes) => bytes.length + 1
  | .lit _ => 1
  | .nil => 1
  | .ptr d => uptoBulk d + 1
  | .slice elems spare => uptoBulkAll elems + uptoBulkAll spare + 1
  | .agg parts => uptoBulkAll parts + 1
  | .iface _ d => uptoBulk d + 1
  | .map entries => uptoBulkEntries entries + 1
  | .held _ => 1
def uptoBulkAll {H : Type} : List (DataW H) → Nat
  | [] => 0
  | d :: r => uptoBulk d + uptoBulkAll r
def uptoBulkEntries {H : Type} : List (Lit × DataW H) → Nat
  | [] => 0
  | x :: r => uptoBulkEntry x + uptoBulkEntries r
def uptoBulkEntry {H : Type} : Lit × DataW H → Nat
  | (.string bytes, d) => bytes.length + uptoBulk d + 1
  | (_, d) => uptoBulk d + 1
 end
def uptoSmall : (H : Type) → List (DataW H) → Bool := fun _ ds => decide (uptoBulkAll ds ≤ 1048576)
def OpenSpec.upto (s : _root_.Go.ChangeSpec) : _root_.Go.OpenSpec := { _root_.Go.OpenSpec.ofChange s with cond := some uptoSmall }

/-- 'blinktreelaw10.ChainBuilds', WHERE WHAT IT READS IS OF BULK AT MOST 1048576: true; the input reads as it did. -/
def chainBuildsUptoRow : OpenClaim := { program := "ytpamjbjgckaedaa", sum := "93feb73e7c773b11e4a13e507dd1f064322b43b13280b99e0b6b49219ba75ab3", func := "blinktree/blinktreelaw10.ChainBuilds", spec := "chainBuilds", apart := false, narrowed := true }
def ChainBuildsUptoSaid : Prop := chainBuildsUptoRow.holds Try.pinned (OpenSpec.upto chainBuildsSpec)

/-- 'blinktreelaw10.ChainLookupIsStable', WHERE WHAT IT READS IS OF BULK AT MOST 1048576: true; the input reads as it did. -/
def chainLookupIsStableUptoRow : OpenClaim := { program := "ytpamjbjgckaedaa", sum := "93feb73e7c773b11e4a13e507dd1f064322b43b13280b99e0b6b49219ba75ab3", func := "blinktree/blinktreelaw10.ChainLookupIsStable", spec := "chainLookupIsStable", apart := false, narrowed := true }
def ChainLookupIsStableUptoSaid : Prop := chainLookupIsStableUptoRow.holds Try.pinned (OpenSpec.upto chainLookupIsStableSpec)

/-- 'blinktreelaw10.ChainRestoreUndoes', WHERE WHAT IT READS IS OF BULK AT MOST 1048576: true; the input reads as it did. -/
def chainRestoreUndoesUptoRow : OpenClaim := { program := "ytpamjbjgckaedaa", sum := "93feb73e7c773b11e4a13e507dd1f064322b43b13280b99e0b6b49219ba75ab3", func := "blinktree/blinktreelaw10.ChainRestoreUndoes", spec := "chainRestoreUndoes", apart := false, narrowed := true }
def ChainRestoreUndoesUptoSaid : Prop := chainRestoreUndoesUptoRow.holds Try.pinned (OpenSpec.upto chainRestoreUndoesSpec)

/-- 'blinktreelaw10.ChainTruncatesTwice', WHERE WHAT IT READS IS OF BULK AT MOST 1048576: true; the input reads as it did. -/
def chainTruncatesTwiceUptoRow : OpenClaim := { program := "ytpamjbjgckaedaa", sum := "93feb73e7c773b11e4a13e507dd1f064322b43b13280b99e0b6b49219ba75ab3", func := "blinktree/blinktreelaw10.ChainTruncatesTwice", spec := "chainTruncatesTwice", apart := false, narrowed := true }
def ChainTruncatesTwiceUptoSaid : Prop := chainTruncatesTwiceUptoRow.holds Try.pinned (OpenSpec.upto chainTruncatesTwiceSpec)

end Rows
end Go.Proofs.Ytpamjbjgckaedaa
