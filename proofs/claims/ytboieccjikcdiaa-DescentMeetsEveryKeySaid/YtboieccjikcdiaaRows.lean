/-
  No cell of these rows narrows 'for every input' (looked for: loops, veiled, ifaces, maps, wideKeys, modest, calm, conditions, laid).
  DERIVED. THE GIVEN ROWS OF THIS SEAT. 5 by the template 'for every input the law returns true; each argument reads behind the call as it read before'; 0 by the template 'total and deterministic' (their statements: YtboieccjikcdiaaTotals.lean).
  GIVEN WITH THE SEED: the statements are not yours to turn. If you find one false, say at which input.
  Laid BY PROGRAM, IN A SANDBOX (cutbox-rows.mjs): the forced cells as the released guide's own fill.sh prints them over the translation ba1e530c3d2bd024… (all of the seat's roots in one cut). By AI agents, Wed Nov 11 2026. No macro, syntax, notation, axiom, sorry.
-/
import Derived.Test.YtboieccjikcdiaaChecked
import GoSem.Claim
import GoSem.ClaimJoined
import GoSem.ClaimMapViews
import Derived.JoinedTies
import Derived.KernelRfl
namespace Go.Proofs.Ytboieccjikcdiaa
/- THE CELL 'sum', in the pinned program and in every row, IS THE sha256 OF THE DUMP (.gsa) THAT YtboieccjikcdiaaProg.lean LOADS. Nothing in Lean hashes anything: it is a label: what it is worth is what the hold of that sum in a sandbox is worth. -/
noncomputable def Try.pinned : Pinned := { name := "ytboieccjikcdiaa", sum := "ba1e530c3d2bd02487d2b5cfdab00513ef1068d909abd4aa907a58c22560c6c4", checked := Try.checked }
namespace Rows
def none {H : Type} : Left H := { results := [], args := [] }

/-- 'blinktreelaw11.DescentFinds': WHATEVER THE INPUT: true; the input reads as it did. -/
def descentFindsSpec : ChangeSpec := { name := "descentFinds", fn := fun _ => fun
  | [d1, d2, d3, d4, d5, d6, d7] => { results := [.lit (.bool true)], args := [d1, d2, d3, d4, d5, d6, d7] }
  | _ => none }
def descentFindsRow : OpenClaim := { program := "ytboieccjikcdiaa", sum := "ba1e530c3d2bd02487d2b5cfdab00513ef1068d909abd4aa907a58c22560c6c4", func := "blinktree/blinktreelaw11.DescentFinds", spec := "descentFinds", unfollowed := true, recurses := true, apart := false }
def DescentFindsSaid : Prop := descentFindsRow.holds Try.pinned (OpenSpec.ofChange descentFindsSpec)

/-- ITS FALSE NEIGHBOUR: 'it returns false'. Refute it at one input. -/
def descentFindsWrong : ChangeSpec := { name := "descentFinds", fn := fun _ => fun
  | [d1, d2, d3, d4, d5, d6, d7] => { results := [.lit (.bool false)], args := [d1, d2, d3, d4, d5, d6, d7] }
  | _ => none }
def DescentFindsWrongFalsely : Prop := descentFindsRow.holds Try.pinned (OpenSpec.ofChange descentFindsWrong)

/-- 'blinktreelaw11.DescentBelow': WHATEVER THE INPUT: true; the input reads as it did. -/
def descentBelowSpec : ChangeSpec := { name := "descentBelow", fn := fun _ => fun
  | [d1, d2, d3, d4, d5, d6, d7] => { results := [.lit (.bool true)], args := [d1, d2, d3, d4, d5, d6, d7] }
  | _ => none }
def descentBelowRow : OpenClaim := { program := "ytboieccjikcdiaa", sum := "ba1e530c3d2bd02487d2b5cfdab00513ef1068d909abd4aa907a58c22560c6c4", func := "blinktree/blinktreelaw11.DescentBelow", spec := "descentBelow", unfollowed := true, recurses := true, apart := false }
def DescentBelowSaid : Prop := descentBelowRow.holds Try.pinned (OpenSpec.ofChange descentBelowSpec)

/-- ITS FALSE NEIGHBOUR: 'it returns false'. Refute it at one input. -/
def descentBelowWrong : ChangeSpec := { name := "descentBelow", fn := fun _ => fun
  | [d1, d2, d3, d4, d5, d6, d7] => { results := [.lit (.bool false)], args := [d1, d2, d3, d4, d5, d6, d7] }
  | _ => none }
def DescentBelowWrongFalsely : Prop := descentBelowRow.holds Try.pinned (OpenSpec.ofChange descentBelowWrong)

/-- 'blinktreelaw11.DescentMeetsEveryKey': WHATEVER THE INPUT: true; the input reads as it did. -/
def descentMeetsEveryKeySpec : ChangeSpec := { name := "descentMeetsEveryKey", fn := fun _ => fun
  | [d1, d2, d3, d4] => { results := [.lit (.bool true)], args := [d1, d2, d3, d4] }
  | _ => none }
def descentMeetsEveryKeyRow : OpenClaim := { program := "ytboieccjikcdiaa", sum := "ba1e530c3d2bd02487d2b5cfdab00513ef1068d909abd4aa907a58c22560c6c4", func := "blinktree/blinktreelaw11.DescentMeetsEveryKey", spec := "descentMeetsEveryKey", unfollowed := true, recurses := true, apart := false }
def DescentMeetsEveryKeySaid : Prop := descentMeetsEveryKeyRow.holds Try.pinned (OpenSpec.ofChange descentMeetsEveryKeySpec)

/-- ITS FALSE NEIGHBOUR: 'it returns false'. Refute it at one input. -/
def descentMeetsEveryKeyWrong : ChangeSpec := { name := "descentMeetsEveryKey", fn := fun _ => fun
  | [d1, d2, d3, d4] => { results := [.lit (.bool false)], args := [d1, d2, d3, d4] }
  | _ => none }
def DescentMeetsEveryKeyWrongFalsely : Prop := descentMeetsEveryKeyRow.holds Try.pinned (OpenSpec.ofChange descentMeetsEveryKeyWrong)

/-- 'blinktreelaw11.DescentIsShort': WHATEVER THE INPUT: true; the input reads as it did. -/
def descentIsShortSpec : ChangeSpec := { name := "descentIsShort", fn := fun _ => fun
  | [d1, d2, d3, d4, d5] => { results := [.lit (.bool true)], args := [d1, d2, d3, d4, d5] }
  | _ => none }
def descentIsShortRow : OpenClaim := { program := "ytboieccjikcdiaa", sum := "ba1e530c3d2bd02487d2b5cfdab00513ef1068d909abd4aa907a58c22560c6c4", func := "blinktree/blinktreelaw11.DescentIsShort", spec := "descentIsShort", unfollowed := true, recurses := true, apart := false }
def DescentIsShortSaid : Prop := descentIsShortRow.holds Try.pinned (OpenSpec.ofChange descentIsShortSpec)

/-- ITS FALSE NEIGHBOUR: 'it returns false'. Refute it at one input. -/
def descentIsShortWrong : ChangeSpec := { name := "descentIsShort", fn := fun _ => fun
  | [d1, d2, d3, d4, d5] => { results := [.lit (.bool false)], args := [d1, d2, d3, d4, d5] }
  | _ => none }
def DescentIsShortWrongFalsely : Prop := descentIsShortRow.holds Try.pinned (OpenSpec.ofChange descentIsShortWrong)

/-- 'blinktreelaw11.DescentLevels': WHATEVER THE INPUT: true; the input reads as it did. -/
def descentLevelsSpec : ChangeSpec := { name := "descentLevels", fn := fun _ => fun
  | [d1, d2, d3, d4, d5] => { results := [.lit (.bool true)], args := [d1, d2, d3, d4, d5] }
  | _ => none }
def descentLevelsRow : OpenClaim := { program := "ytboieccjikcdiaa", sum := "ba1e530c3d2bd02487d2b5cfdab00513ef1068d909abd4aa907a58c22560c6c4", func := "blinktree/blinktreelaw11.DescentLevels", spec := "descentLevels", unfollowed := true, recurses := true, apart := false }
def DescentLevelsSaid : Prop := descentLevelsRow.holds Try.pinned (OpenSpec.ofChange descentLevelsSpec)

/-- ITS FALSE NEIGHBOUR: 'it returns false'. Refute it at one input. -/
def descentLevelsWrong : ChangeSpec := { name := "descentLevels", fn := fun _ => fun
  | [d1, d2, d3, d4, d5] => { results := [.lit (.bool false)], args := [d1, d2, d3, d4, d5] }
  | _ => none }
def DescentLevelsWrongFalsely : Prop := descentLevelsRow.holds Try.pinned (OpenSpec.ofChange descentLevelsWrong)

/- THE SECOND FORM. 'bulk': how many values and letters a reading holds, each counted each time it is reached (what is shared counts as often as it is met; a slice's spare places count too). A statement '..UptoSaid' is the law's where the arguments, and the package variables that the reading takes, are together of bulk at most 1048576: NARROWER than '..Said'. Prove '..Said' where nothing that the law and all that it calls make is longer than what came in: it says more and counts as full. Else prove '..UptoSaid'. A law counts once. -/
mutual
def uptoBulk {H : Type} : DataW H → Nat
  | .lit (.string bytes) => bytes.length + 1
  | .lit _ => 1
  | .nil => 1
  | .ptr d => uptoBulk d + 1
  | .slice elems spare => uptoBulkAll elems + uptoBulkAll spare + 1
  | .agg parts => uptoBulkAll parts + 1
  | .iface _ d => uptoBulk d + 1
  | .map entries => uptoBulkEntries entries + 1
  | .held _ => 1
def uptoBulkAll {H : Type} : List (DataW H) → Nat
  | [] => 0
  | d :: r => uptoBulk d + uptoBulkAll r
def uptoBulkEntries {H : Type} : List (Lit × DataW H) → Nat
  | [] => 0
  | x :: r => uptoBulkEntry x + uptoBulkEntries r
def uptoBulkEntry {H : Type} : Lit × DataW H → Nat
  | (.string bytes, d) => bytes.length + uptoBulk d + 1
  | (_, d) => uptoBulk d + 1
 end
def uptoSmall : (H : Type) → List (DataW H) → Bool := fun _ ds => decide (uptoBulkAll ds ≤ 1048576)
def OpenSpec.upto (s : _root_.Go.ChangeSpec) : _root_.Go.OpenSpec := { _root_.Go.OpenSpec.ofChange s with cond := some uptoSmall }

/-- 'blinktreelaw11.DescentFinds', WHERE WHAT IT READS IS OF BULK AT MOST 1048576: true; the input reads as it did. -/
def descentFindsUptoRow : OpenClaim := { program := "ytboieccjikcdiaa", sum := "ba1e530c3d2bd02487d2b5cfdab00513ef1068d909abd4aa907a58c22560c6c4", func := "blinktree/blinktreelaw11.DescentFinds", spec := "descentFinds", unfollowed := true, recurses := true, apart := false, narrowed := true }
def DescentFindsUptoSaid : Prop := descentFindsUptoRow.holds Try.pinned (OpenSpec.upto descentFindsSpec)

/-- 'blinktreelaw11.DescentBelow', WHERE WHAT IT READS IS OF BULK AT MOST 1048576: true; the input reads as it did. -/
def descentBelowUptoRow : OpenClaim := { program := "ytboieccjikcdiaa", sum := "ba1e530c3d2bd02487d2b5cfdab00513ef1068d909abd4aa907a58c22560c6c4", func := "blinktree/blinktreelaw11.DescentBelow", spec := "descentBelow", unfollowed := true, recurses := true, apart := false, narrowed := true }
def DescentBelowUptoSaid : Prop := descentBelowUptoRow.holds Try.pinned (OpenSpec.upto descentBelowSpec)

/-- 'blinktreelaw11.DescentMeetsEveryKey', WHERE WHAT IT READS IS OF BULK AT MOST 1048576: true; the input reads as it did. -/
def descentMeetsEveryKeyUptoRow : OpenClaim := { program := "ytboieccjikcdiaa", sum := "ba1e530c3d2bd02487d2b5cfdab00513ef1068d909abd4aa907a58c22560c6c4", func := "blinktree/blinktreelaw11.DescentMeetsEveryKey", spec := "descentMeetsEveryKey", unfollowed := true, recurses := true, apart := false, narrowed := true }
def DescentMeetsEveryKeyUptoSaid : Prop := descentMeetsEveryKeyUptoRow.holds Try.pinned (OpenSpec.upto descentMeetsEveryKeySpec)

/-- 'blinktreelaw11.DescentIsShort', WHERE WHAT IT READS IS OF BULK AT MOST 1048576: true; the input reads as it did. -/
def descentIsShortUptoRow : OpenClaim := { program := "ytboieccjikcdiaa", sum := "ba1e530c3d2bd02487d2b5cfdab00513ef1068d909abd4aa907a58c22560c6c4", func := "blinktree/blinktreelaw11.DescentIsShort", spec := "descentIsShort", unfollowed := true, recurses := true, apart := false, narrowed := true }
def DescentIsShortUptoSaid : Prop := descentIsShortUptoRow.holds Try.pinned (OpenSpec.upto descentIsShortSpec)

/-- 'blinktreelaw11.DescentLevels', WHERE WHAT IT READS IS OF BULK AT MOST 1048576: true; the input reads as it did. -/
def descentLevelsUptoRow : OpenClaim := { program := "ytboieccjikcdiaa", sum := "ba1e530c3d2bd02487d2b5cfdab00513ef1068d909abd4aa907a58c22560c6c4", func := "blinktree/blinktreelaw11.DescentLevels", spec := "descentLevels", unfollowed := true, recurses := true, apart := false, narrowed := true }
def DescentLevelsUptoSaid : Prop := descentLevelsUptoRow.holds Try.pinned (OpenSpec.upto descentLevelsSpec)

end Rows
end Go.Proofs.Ytboieccjikcdiaa
