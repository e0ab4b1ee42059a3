/-
  No cell of these rows narrows 'for every input' (looked for: loops, veiled, ifaces, maps, wideKeys, modest, calm, conditions, laid).
  DERIVED. THE GIVEN ROWS OF THIS SEAT. 3 by the template 'for every input the law returns true; each argument reads behind the call as it read before'; 0 by the template 'total and deterministic' (their statements: YtndadgenkmgmaaaGreatTotals.lean).
  GIVEN WITH THE SEED: the statements are not yours to turn. If you find one false, say at which input.
  Laid BY PROGRAM, IN A SANDBOX (cutbox-rows.mjs): the forced cells as the released guide's own fill.sh prints them over the translation fa30b94c54aa4615… (all of the seat's roots in one cut). By AI agents, Wed Nov 11 2026. No macro, syntax, notation, axiom, sorry.
-/
import Derived.Test.YtndadgenkmgmaaaGreatChecked
import GoSem.Claim
import GoSem.ClaimJoined
import GoSem.ClaimMapViews
import Derived.JoinedTies
import Derived.KernelRfl
namespace Go.Proofs.YtndadgenkmgmaaaGreat
/- THE CELL 'sum', in the pinned program and in every row, IS THE sha256 OF THE DUMP (.gsa) THAT YtndadgenkmgmaaaGreatProg.lean LOADS. Nothing in Lean hashes anything: it is a label: what it is worth is what the hold of that sum in a sandbox is worth. -/
noncomputable def Tryz.pinned : Pinned := { name := "ytndadgenkmgmaaagreat", sum := "fa30b94c54aa4615f2095f18c5b96bf2f882ba4881df3e53d43bed491c876402", checked := Tryz.checked }
namespace Rows
def none {H : Type} : Left H := { results := [], args := [] }

/-- 'blinktreelaw12.LeaflockLocks': WHATEVER THE INPUT: true; the input reads as it did. -/
def leaflockLocksSpec : ChangeSpec := { name := "leaflockLocks", fn := fun _ => fun
  | [d1, d2, d3, d4, d5, d6, d7] => { results := [.lit (.bool true)], args := [d1, d2, d3, d4, d5, d6, d7] }
  | _ => none }
def leaflockLocksRow : OpenClaim := { program := "ytndadgenkmgmaaagreat", sum := "fa30b94c54aa4615f2095f18c5b96bf2f882ba4881df3e53d43bed491c876402", func := "blinktree/blinktreelaw12.LeaflockLocks", spec := "leaflockLocks", unfollowed := true, recurses := true, apart := false }
def LeaflockLocksSaid : Prop := leaflockLocksRow.holds Tryz.pinned (OpenSpec.ofChange leaflockLocksSpec)

/-- ITS FALSE NEIGHBOUR: 'it returns false'. Refute it at one input. -/
def leaflockLocksWrong : ChangeSpec := { name := "leaflockLocks", fn := fun _ => fun
  | [d1, d2, d3, d4, d5, d6, d7] => { results := [.lit (.bool false)], args := [d1, d2, d3, d4, d5, d6, d7] }
  | _ => none }
def LeaflockLocksWrongFalsely : Prop := leaflockLocksRow.holds Tryz.pinned (OpenSpec.ofChange leaflockLocksWrong)

/-- 'blinktreelaw12.LeaflockMovesRight': WHATEVER THE INPUT: true; the input reads as it did. -/
def leaflockMovesRightSpec : ChangeSpec := { name := "leaflockMovesRight", fn := fun _ => fun
  | [d1, d2, d3, d4, d5] => { results := [.lit (.bool true)], args := [d1, d2, d3, d4, d5] }
  | _ => none }
def leaflockMovesRightRow : OpenClaim := { program := "ytndadgenkmgmaaagreat", sum := "fa30b94c54aa4615f2095f18c5b96bf2f882ba4881df3e53d43bed491c876402", func := "blinktree/blinktreelaw12.LeaflockMovesRight", spec := "leaflockMovesRight", unfollowed := true, recurses := true, apart := false }
def LeaflockMovesRightSaid : Prop := leaflockMovesRightRow.holds Tryz.pinned (OpenSpec.ofChange leaflockMovesRightSpec)

/-- ITS FALSE NEIGHBOUR: 'it returns false'. Refute it at one input. -/
def leaflockMovesRightWrong : ChangeSpec := { name := "leaflockMovesRight", fn := fun _ => fun
  | [d1, d2, d3, d4, d5] => { results := [.lit (.bool false)], args := [d1, d2, d3, d4, d5] }
  | _ => none }
def LeaflockMovesRightWrongFalsely : Prop := leaflockMovesRightRow.holds Tryz.pinned (OpenSpec.ofChange leaflockMovesRightWrong)

/-- 'blinktreelaw12.LeaflockExcludes': WHATEVER THE INPUT: true; the input reads as it did. -/
def leaflockExcludesSpec : ChangeSpec := { name := "leaflockExcludes", fn := fun _ => fun
  | [d1, d2, d3, d4, d5, d6] => { results := [.lit (.bool true)], args := [d1, d2, d3, d4, d5, d6] }
  | _ => none }
def leaflockExcludesRow : OpenClaim := { program := "ytndadgenkmgmaaagreat", sum := "fa30b94c54aa4615f2095f18c5b96bf2f882ba4881df3e53d43bed491c876402", func := "blinktree/blinktreelaw12.LeaflockExcludes", spec := "leaflockExcludes", unfollowed := true, recurses := true, apart := false }
def LeaflockExcludesSaid : Prop := leaflockExcludesRow.holds Tryz.pinned (OpenSpec.ofChange leaflockExcludesSpec)

/-- ITS FALSE NEIGHBOUR: 'it returns false'. Refute it at one input. -/
def leaflockExcludesWrong : ChangeSpec := { name := "leaflockExcludes", fn := fun _ => fun
  | [d1, d2, d3, d4, d5, d6] => { results := [.lit (.bool false)], args := [d1, d2, d3, d4, d5, d6] }
  | _ => none }
def LeaflockExcludesWrongFalsely : Prop := leaflockExcludesRow.holds Tryz.pinned (OpenSpec.ofChange leaflockExcludesWrong)

/- THE SECOND FORM. 'bulk': how many values and letters a reading holds, each counted each time it is reached (what is shared counts as often as it is met; a slice's spare places count too). A statement '..UptoSaid' is the law's where the arguments, and the package variables that the reading takes, are together of bulk at most 1048576: NARROWER than '..Said'. Prove '..Said' where nothing that the law and all that it calls make is longer than what came in: it says more and counts as full. Else prove '..UptoSaid'. A law counts once. -/
mutual
def uptoBulk {H : Type} : DataW H → Nat
  | .lit (.string bytes) => bytes.length + 1
  | .lit _ => 1
  | .nil => 1
  | .ptr d => uptoBulk d + 1
  | .slice elems spare => uptoBulkAll elems + uptoBulkAll spare + 1
  | .agg parts => uptoBulkAll parts + 1
  | .iface _ d => uptoBulk d + 1
  | .map entries => uptoBulkEntries entries + 1
  | .held _ => 1
def uptoBulkAll {H : Type} : List (DataW H) → Nat
  | [] => 0
  | d :: r => uptoBulk d + uptoBulkAll r
def uptoBulkEntries {H : Type} : List (Lit × DataW H) → Nat
  | [] => 0
  | x :: r => uptoBulkEntry x + uptoBulkEntries r
def uptoBulkEntry {H : Type} : Lit × DataW H → Nat
  | (.string bytes, d) => bytes.length + uptoBulk d + 1
  | (_, d) => uptoBulk d + 1
 end
def uptoSmall : (H : Type) → List (DataW H) → Bool := fun _ ds => decide (uptoBulkAll ds ≤ 1048576)
def OpenSpec.upto (s : _root_.Go.ChangeSpec) : _root_.Go.OpenSpec := { _root_.Go.OpenSpec.ofChange s with cond := some uptoSmall }

/-- 'blinktreelaw12.LeaflockLocks', WHERE WHAT IT READS IS OF BULK AT MOST 1048576: true; the input reads as it did. -/
def leaflockLocksUptoRow : OpenClaim := { program := "ytndadgenkmgmaaagreat", sum := "fa30b94c54aa4615f2095f18c5b96bf2f882ba4881df3e53d43bed491c876402", func := "blinktree/blinktreelaw12.LeaflockLocks", spec := "leaflockLocks", unfollowed := true, recurses := true, apart := false, narrowed := true }
def LeaflockLocksUptoSaid : Prop := leaflockLocksUptoRow.holds Tryz.pinned (OpenSpec.upto leaflockLocksSpec)

/-- 'blinktreelaw12.LeaflockMovesRight', WHERE WHAT IT READS IS OF BULK AT MOST 1048576: true; the input reads as it did. -/
def leaflockMovesRightUptoRow : OpenClaim := { program := "ytndadgenkmgmaaagreat", sum := "fa30b94c54aa4615f2095f18c5b96bf2f882ba4881df3e53d43bed491c876402", func := "blinktree/blinktreelaw12.LeaflockMovesRight", spec := "leaflockMovesRight", unfollowed := true, recurses := true, apart := false, narrowed := true }
def LeaflockMovesRightUptoSaid : Prop := leaflockMovesRightUptoRow.holds Tryz.pinned (OpenSpec.upto leaflockMovesRightSpec)

/-- 'blinktreelaw12.LeaflockExcludes', WHERE WHAT IT READS IS OF BULK AT MOST 1048576: true; the input reads as it did. -/
def leaflockExcludesUptoRow : OpenClaim := { program := "ytndadgenkmgmaaagreat", sum := "fa30b94c54aa4615f2095f18c5b96bf2f882ba4881df3e53d43bed491c876402", func := "blinktree/blinktreelaw12.LeaflockExcludes", spec := "leaflockExcludes", unfollowed := true, recurses := true, apart := false, narrowed := true }
def LeaflockExcludesUptoSaid : Prop := leaflockExcludesUptoRow.holds Tryz.pinned (OpenSpec.upto leaflockExcludesSpec)

end Rows
end Go.Proofs.YtndadgenkmgmaaaGreat
