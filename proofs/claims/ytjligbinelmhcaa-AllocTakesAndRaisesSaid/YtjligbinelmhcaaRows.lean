/-
  No cell of these rows narrows 'for every input' (looked for: loops, veiled, ifaces, maps, wideKeys, modest, calm, conditions, laid).
  DERIVED. THE GIVEN ROWS OF THIS SEAT. 3 by the template 'for every input the law returns true; each argument reads behind the call as it read before'; 0 by the template 'total and deterministic' (their statements: YtjligbinelmhcaaTotals.lean).
  GIVEN WITH THE SEED: the statements are not yours to turn. If you find one false, say at which input.
  Laid BY PROGRAM, IN A SANDBOX (cutbox-rows.mjs): the forced cells as the released guide's own fill.sh prints them over the translation 0ae177ce57d45792… (all of the seat's roots in one cut). By AI agents, Wed Nov 11 2026. No macro, syntax, notation, axiom, sorry.
-/
import Derived.Test.YtjligbinelmhcaaChecked
import GoSem.Claim
import GoSem.ClaimJoined
import GoSem.ClaimMapViews
import Derived.JoinedTies
import Derived.KernelRfl
namespace Go.Proofs.Ytjligbinelmhcaa
/- THE CELL 'sum', in the pinned program and in every row, IS THE sha256 OF THE DUMP (.gsa) THAT YtjligbinelmhcaaProg.lean LOADS. Nothing in Lean hashes anything: it is a label: what it is worth is what the hold of that sum in a sandbox is worth. -/
noncomputable def Try.pinned : Pinned := { name := "ytjligbinelmhcaa", sum := "0ae177ce57d457925568cc84fa170a446f7f99f6fad7f5050975f44bda201a51", checked := Try.checked }
namespace Rows
def none {H : Type} : Left H := { results := [], args := [] }

/-- 'blinktreelaw5.AllocTakes': WHATEVER THE INPUT: true; the input reads as it did. -/
def allocTakesSpec : ChangeSpec := { name := "allocTakes", fn := fun _ => fun
  | [d1, d2, d3, d4] => { results := [.lit (.bool true)], args := [d1, d2, d3, d4] }
  | _ => none }
def allocTakesRow : OpenClaim := { program := "ytjligbinelmhcaa", sum := "0ae177ce57d457925568cc84fa170a446f7f99f6fad7f5050975f44bda201a51", func := "blinktree/blinktreelaw5.AllocTakes", spec := "allocTakes", apart := false }
def AllocTakesSaid : Prop := allocTakesRow.holds Try.pinned (OpenSpec.ofChange allocTakesSpec)

/-- ITS FALSE NEIGHBOUR: 'it returns false'. Refute it at one input. -/
def allocTakesWrong : ChangeSpec := { name := "allocTakes", fn := fun _ => fun
  | [d1, d2, d3, d4] => { results := [.lit (.bool false)], args := [d1, d2, d3, d4] }
  | _ => none }
def AllocTakesWrongFalsely : Prop := allocTakesRow.holds Try.pinned (OpenSpec.ofChange allocTakesWrong)

/-- 'blinktreelaw5.AllocRaises': WHATEVER THE INPUT: true; the input reads as it did. -/
def allocRaisesSpec : ChangeSpec := { name := "allocRaises", fn := fun _ => fun
  | [d1, d2, d3] => { results := [.lit (.bool true)], args := [d1, d2, d3] }
  | _ => none }
def allocRaisesRow : OpenClaim := { program := "ytjligbinelmhcaa", sum := "0ae177ce57d457925568cc84fa170a446f7f99f6fad7f5050975f44bda201a51", func := "blinktree/blinktreelaw5.AllocRaises", spec := "allocRaises", apart := false }
def AllocRaisesSaid : Prop := allocRaisesRow.holds Try.pinned (OpenSpec.ofChange allocRaisesSpec)

/-- ITS FALSE NEIGHBOUR: 'it returns false'. Refute it at one input. -/
def allocRaisesWrong : ChangeSpec := { name := "allocRaises", fn := fun _ => fun
  | [d1, d2, d3] => { results := [.lit (.bool false)], args := [d1, d2, d3] }
  | _ => none }
def AllocRaisesWrongFalsely : Prop := allocRaisesRow.holds Try.pinned (OpenSpec.ofChange allocRaisesWrong)

/-- 'blinktreelaw5.AllocTakesAndRaises': WHATEVER THE INPUT: true; the input reads as it did. -/
def allocTakesAndRaisesSpec : ChangeSpec := { name := "allocTakesAndRaises", fn := fun _ => fun
  | [d1, d2, d3] => { results := [.lit (.bool true)], args := [d1, d2, d3] }
  | _ => none }
def allocTakesAndRaisesRow : OpenClaim := { program := "ytjligbinelmhcaa", sum := "0ae177ce57d457925568cc84fa170a446f7f99f6fad7f5050975f44bda201a51", func := "blinktree/blinktreelaw5.AllocTakesAndRaises", spec := "allocTakesAndRaises", apart := false }
def AllocTakesAndRaisesSaid : Prop := allocTakesAndRaisesRow.holds Try.pinned (OpenSpec.ofChange allocTakesAndRaisesSpec)

/-- ITS FALSE NEIGHBOUR: 'it returns false'. Refute it at one input. -/
def allocTakesAndRaisesWrong : ChangeSpec := { name := "allocTakesAndRaises", fn := fun _ => fun
  | [d1, d2, d3] => { results := [.lit (.bool false)], args := [d1, d2, d3] }
  | _ => none }
def AllocTakesAndRaisesWrongFalsely : Prop := allocTakesAndRaisesRow.holds Try.pinned (OpenSpec.ofChange allocTakesAndRaisesWrong)

/- THE SECOND FORM. 'bulk': how many values and letters a reading holds, each counted each time it is reached (what is shared counts as often as it is met; a slice's spare places count too). A statement '..UptoSaid' is the law's where the arguments, and the package variables that the reading takes, are together of bulk at most 1048576: NARROWER than '..Said'. Prove '..Said' where nothing that the law and all that it calls make is longer than what came in: it says more and counts as full. Else prove '..UptoSaid'. A law counts once. -/
mutual
def uptoBulk {H : Type} : DataW H → Nat
  | .lit (.string bytes) => bytes.length + 1
  | .lit _ => 1
  | .nil => 1
  | .ptr d => uptoBulk d + 1
  | .slice elems spare => uptoBulkAll elems + uptoBulkAll spare + 1
  | .agg parts => uptoBulkAll parts + 1
  | .iface _ d => uptoBulk d + 1
  | .map entries => uptoBulkEntries entries + 1
  | .held _ => 1
def uptoBulkAll {H : Type} : List (DataW H) → Nat
  | [] => 0
  | d :: r => uptoBulk d + uptoBulkAll r
def uptoBulkEntries {H : Type} : List (Lit × DataW H) → Nat
  | [] => 0
  | x :: r => uptoBulkEntry x + uptoBulkEntries r
def uptoBulkEntry {H : Type} : Lit × DataW H → Nat
  | (.string bytes, d) => bytes.length + uptoBulk d + 1
  | (_, d) => uptoBulk d + 1
 end
def uptoSmall : (H : Type) → List (DataW H) → Bool := fun _ ds => decide (uptoBulkAll ds ≤ 1048576)
def OpenSpec.upto (s : _root_.Go.ChangeSpec) : _root_.Go.OpenSpec := { _root_.Go.OpenSpec.ofChange s with cond := some uptoSmall }

/-- 'blinktreelaw5.AllocTakes', WHERE WHAT IT READS IS OF BULK AT MOST 1048576: true; the input reads as it did. -/
def allocTakesUptoRow : OpenClaim := { program := "ytjligbinelmhcaa", sum := "0ae177ce57d457925568cc84fa170a446f7f99f6fad7f5050975f44bda201a51", func := "blinktree/blinktreelaw5.AllocTakes", spec := "allocTakes", apart := false, narrowed := true }
def AllocTakesUptoSaid : Prop := allocTakesUptoRow.holds Try.pinned (OpenSpec.upto allocTakesSpec)

/-- 'blinktreelaw5.AllocRaises', WHERE WHAT IT READS IS OF BULK AT MOST 1048576: true; the input reads as it did. -/
def allocRaisesUptoRow : OpenClaim := { program := "ytjligbinelmhcaa", sum := "0ae177ce57d457925568cc84fa170a446f7f99f6fad7f5050975f44bda201a51", func := "blinktree/blinktreelaw5.AllocRaises", spec := "allocRaises", apart := false, narrowed := true }
def AllocRaisesUptoSaid : Prop := allocRaisesUptoRow.holds Try.pinned (OpenSpec.upto allocRaisesSpec)

/-- 'blinktreelaw5.AllocTakesAndRaises', WHERE WHAT IT READS IS OF BULK AT MOST 1048576: true; the input reads as it did. -/
def allocTakesAndRaisesUptoRow : OpenClaim := { program := "ytjligbinelmhcaa", sum := "0ae177ce57d457925568cc84fa170a446f7f99f6fad7f5050975f44bda201a51", func := "blinktree/blinktreelaw5.AllocTakesAndRaises", spec := "allocTakesAndRaises", apart := false, narrowed := true }
def AllocTakesAndRaisesUptoSaid : Prop := allocTakesAndRaisesUptoRow.holds Try.pinned (OpenSpec.upto allocTakesAndRaisesSpec)

end Rows
end Go.Proofs.Ytjligbinelmhcaa
