/-
  No cell of these rows narrows 'for every input' (looked for: loops, veiled, ifaces, maps, wideKeys, modest, calm, conditions, laid).
  DERIVED. THE GIVEN ROWS OF THIS SEAT. 3 by the template 'for every input the law returns true; each argument reads behind the call as it read before'; 0 by the template 'total and deterministic' (their statements: YtkpbbnpfdighjaaGreatTotals.lean).
  GIVEN WITH THE SEED: the statements are not yours to turn. If you find one false, say at which input.
  Laid BY PROGRAM, IN A SANDBOX (cutbox-rows.mjs): the forced cells as the released guide's own fill.sh prints them over the translation 27a549173c15126c… (all of the seat's roots in one cut). By AI agents, Wed Nov 11 2026. No macro, syntax, notation, axiom, sorry.
-/
import Derived.Test.YtkpbbnpfdighjaaGreatChecked
import GoSem.Claim
import GoSem.ClaimJoined
import GoSem.ClaimMapViews
import Derived.JoinedTies
import Derived.KernelRfl
namespace Go.Proofs.YtkpbbnpfdighjaaGreat
/- THE CELL 'sum', in the pinned program and in every row, IS THE sha256 OF THE DUMP (.gsa) THAT YtkpbbnpfdighjaaGreatProg.lean LOADS. Nothing in Lean hashes anything: it is a label: what it is worth is what the hold of that sum in a sandbox is worth. -/
noncomputable def Tryz.pinned : Pinned := { name := "ytkpbbnpfdighjaagreat", sum := "27a549173c15126ca3522f4aed48466c0a540b93c499307f2116df91091f80c3", checked := Tryz.checked }
namespace Rows
def none {H : Type} : Left H := { results := [], args := [] }

/-- 'blinktreelaw12.LeaflockMovesRight': WHATEVER THE INPUT: true; the input reads as it did. -/
def leaflockMovesRightSpec : ChangeSpec := { name := "leaflockMovesRight", fn := fun _ => fun
  | [d1, d2, d3, d4, d5] => { results := [.lit (.bool true)], args := [d1, d2, d3, d4, d5] }
  | _ => none }
def leaflockMovesRightRow : OpenClaim := { program := "ytkpbbnpfdighjaagreat", sum := "27a549173c15126ca3522f4aed48466c0a540b93c499307f2116df91091f80c3", func := "blinktree/blinktreelaw12.LeaflockMovesRight", spec := "leaflockMovesRight", unfollowed := true, recurses := true, apart := false }
def LeaflockMovesRightSaid : Prop := leaflockMovesRightRow.holds Tryz.pinned (OpenSpec.ofChange leaflockMovesRightSpec)

/-- ITS FALSE NEIGHBOUR: 'it returns false'. Refute it at one input. -/
def leaflockMovesRightWrong : ChangeSpec := { name := "leaflockMovesRight", fn := fun _ => fun
  | [d1, d2, d3, d4, d5] => { results := [.lit (.bool false)], args := [d1, d2, d3, d4, d5] }
  | _ => none }
def LeaflockMovesRightWrongFalsely : Prop := leaflockMovesRightRow.holds Tryz.pinned (OpenSpec.ofChange leaflockMovesRightWrong)

/-- 'blinktreelaw13.InsertLosesNothing': WHATEVER THE INPUT: true; the input reads as it did. -/
def insertLosesNothingSpec : ChangeSpec := { name := "insertLosesNothing", fn := fun _ => fun
  | [d1, d2, d3, d4, d5] => { results := [.lit (.bool true)], args := [d1, d2, d3, d4, d5] }
  | _ => none }
def insertLosesNothingRow : OpenClaim := { program := "ytkpbbnpfdighjaagreat", sum := "27a549173c15126ca3522f4aed48466c0a540b93c499307f2116df91091f80c3", func := "blinktree/blinktreelaw13.InsertLosesNothing", spec := "insertLosesNothing", unfollowed := true, recurses := true, apart := false }
def InsertLosesNothingSaid : Prop := insertLosesNothingRow.holds Tryz.pinned (OpenSpec.ofChange insertLosesNothingSpec)

/-- ITS FALSE NEIGHBOUR: 'it returns false'. Refute it at one input. -/
def insertLosesNothingWrong : ChangeSpec := { name := "insertLosesNothing", fn := fun _ => fun
  | [d1, d2, d3, d4, d5] => { results := [.lit (.bool false)], args := [d1, d2, d3, d4, d5] }
  | _ => none }
def InsertLosesNothingWrongFalsely : Prop := insertLosesNothingRow.holds Tryz.pinned (OpenSpec.ofChange insertLosesNothingWrong)

/-- 'blinktreelaw13.InsertRow': WHATEVER THE INPUT: true; the input reads as it did. -/
def insertRowSpec : ChangeSpec := { name := "insertRow", fn := fun _ => fun
  | [d1, d2] => { results := [.lit (.bool true)], args := [d1, d2] }
  | _ => none }
def insertRowRow : OpenClaim := { program := "ytkpbbnpfdighjaagreat", sum := "27a549173c15126ca3522f4aed48466c0a540b93c499307f2116df91091f80c3", func := "blinktree/blinktreelaw13.InsertRow", spec := "insertRow", unfollowed := true, recurses := true, apart := false }
def InsertRowSaid : Prop := insertRowRow.holds Tryz.pinned (OpenSpec.ofChange insertRowSpec)

/-- ITS FALSE NEIGHBOUR: 'it returns false'. Refute it at one input. -/
def insertRowWrong : ChangeSpec := { name := "insertRow", fn := fun _ => fun
  | [d1, d2] => { results := [.lit (.bool false)], args := [d1, d2] }
  | _ => none }
def InsertRowWrongFalsely : Prop := insertRowRow.holds Tryz.pinned (OpenSpec.ofChange insertRowWrong)

/- THE SECOND FORM. 'bulk': how many values and letters a reading holds, each counted each time it is reached (what is shared counts as often as it is met; a slice's spare places count too). A statement '..UptoSaid' is the law's where the arguments, and the package variables that the reading takes, are together of bulk at most 1048576: NARROWER than '..Said'. Prove '..Said' where nothing that the law and all that it calls make is longer than what came in: it says more and counts as full. Else prove '..UptoSaid'. A law counts once. -/
mutual
def uptoBulk {H : Type} : DataW H → Nat
  | .lit (.string bytes) => bytes.length + 1
  | .lit _ => 1
  | .nil => 1
  | .ptr d => uptoBulk d + 1
  | .slice elems spare => uptoBulkAll elems + uptoBulkAll spare + 1
  | .agg parts => uptoBulkAll parts + 1
  | .iface _ d => uptoBulk d + 1
  | .map entries => uptoBulkEntries entries + 1
  | .held _ => 1
def uptoBulkAll {H : Type} : List (DataW H) → Nat
  | [] => 0
  | d :: r => uptoBulk d + uptoBulkAll r
def uptoBulkEntries {H : Type} : List (Lit × DataW H) → Nat
  | [] => 0
  | x :: r => uptoBulkEntry x + uptoBulkEntries r
def uptoBulkEntry {H : Type} : Lit × DataW H → Nat
  | (.string bytes, d) => bytes.length + uptoBulk d + 1
  | (_, d) => uptoBulk d + 1
 end
def uptoSmall : (H : Type) → List (DataW H) → Bool := fun _ ds => decide (uptoBulkAll ds ≤ 1048576)
def OpenSpec.upto (s : _root_.Go.ChangeSpec) : _root_.Go.OpenSpec := { _root_.Go.OpenSpec.ofChange s with cond := some uptoSmall }

/-- 'blinktreelaw12.LeaflockMovesRight', WHERE WHAT IT READS IS OF BULK AT MOST 1048576: true; the input reads as it did. -/
def leaflockMovesRightUptoRow : OpenClaim := { program := "ytkpbbnpfdighjaagreat", sum := "27a549173c15126ca3522f4aed48466c0a540b93c499307f2116df91091f80c3", func := "blinktree/blinktreelaw12.LeaflockMovesRight", spec := "leaflockMovesRight", unfollowed := true, recurses := true, apart := false, narrowed := true }
def LeaflockMovesRightUptoSaid : Prop := leaflockMovesRightUptoRow.holds Tryz.pinned (OpenSpec.upto leaflockMovesRightSpec)

/-- 'blinktreelaw13.InsertLosesNothing', WHERE WHAT IT READS IS OF BULK AT MOST 1048576: true; the input reads as it did. -/
def insertLosesNothingUptoRow : OpenClaim := { program := "ytkpbbnpfdighjaagreat", sum := "27a549173c15126ca3522f4aed48466c0a540b93c499307f2116df91091f80c3", func := "blinktree/blinktreelaw13.InsertLosesNothing", spec := "insertLosesNothing", unfollowed := true, recurses := true, apart := false, narrowed := true }
def InsertLosesNothingUptoSaid : Prop := insertLosesNothingUptoRow.holds Tryz.pinned (OpenSpec.upto insertLosesNothingSpec)

/-- 'blinktreelaw13.InsertRow', WHERE WHAT IT READS IS OF BULK AT MOST 1048576: true; the input reads as it did. -/
def insertRowUptoRow : OpenClaim := { program := "ytkpbbnpfdighjaagreat", sum := "27a549173c15126ca3522f4aed48466c0a540b93c499307f2116df91091f80c3", func := "blinktree/blinktreelaw13.InsertRow", spec := "insertRow", unfollowed := true, recurses := true, apart := false, narrowed := true }
def InsertRowUptoSaid : Prop := insertRowUptoRow.holds Tryz.pinned (OpenSpec.upto insertRowSpec)

end Rows
end Go.Proofs.YtkpbbnpfdighjaaGreat
