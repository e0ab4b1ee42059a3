/-
  No cell of these rows narrows 'for every input' (looked for: loops, veiled, ifaces, maps, wideKeys, modest, calm, conditions, laid).
  DERIVED. THE GIVEN ROWS OF THIS SEAT. 3 by the template 'for every input the law returns true; each argument reads behind the call as it read before'; 0 by the template 'total and deterministic' (their statements: YtmnfdecakjobjaaTotals.lean).
  GIVEN WITH THE SEED: the statements are not yours to turn. If you find one false, say at which input.
  Laid BY PROGRAM, IN A SANDBOX (cutbox-rows.mjs): the forced cells as the released guide's own fill.sh prints them over the translation deb15f2200795093… (all of the seat's roots in one cut). By AI agents, Wed Nov 11 2026. No macro, syntax, notation, axiom, sorry.
-/
import Derived.Test.YtmnfdecakjobjaaChecked
import GoSem.Claim
import GoSem.ClaimJoined
import GoSem.ClaimMapViews
import Derived.JoinedTies
import Derived.KernelRfl
namespace Go.Proofs.Ytmnfdecakjobjaa
/- THE CELL 'sum', in the pinned program and in every row, IS THE sha256 OF THE DUMP (.gsa) THAT YtmnfdecakjobjaaProg.lean LOADS. Nothing in Lean hashes anything: it is a label: what it is worth is what the hold of that sum in a sandbox is worth. -/
noncomputable def Try.pinned : Pinned := { name := "ytmnfdecakjobjaa", sum := "deb15f2200795093827042b05b04529258d983a87c155a5c88dc899995f02558", checked := Try.checked }
namespace Rows
def none {H : Type} : Left H := { results := [], args := [] }

/-- 'blinktreelaw6.ClockPublishes': WHATEVER THE INPUT: true; the input reads as it did. -/
def clockPublishesSpec : ChangeSpec := { name := "clockPublishes", fn := fun _ => fun
  | [d1, d2, d3] => { results := [.lit (.bool true)], args := [d1, d2, d3] }
  | _ => none }
def clockPublishesRow : OpenClaim := { program := "ytmnfdecakjobjaa", sum := "deb15f2200795093827042b05b04529258d983a87c155a5c88dc899995f02558", func := "blinktree/blinktreelaw6.ClockPublishes", spec := "clockPublishes", apart := false }
def ClockPublishesSaid : Prop := clockPublishesRow.holds Try.pinned (OpenSpec.ofChange clockPublishesSpec)

/-- ITS FALSE NEIGHBOUR: 'it returns false'. Refute it at one input. -/
def clockPublishesWrong : ChangeSpec := { name := "clockPublishes", fn := fun _ => fun
  | [d1, d2, d3] => { results := [.lit (.bool false)], args := [d1, d2, d3] }
  | _ => none }
def ClockPublishesWrongFalsely : Prop := clockPublishesRow.holds Try.pinned (OpenSpec.ofChange clockPublishesWrong)

/-- 'blinktreelaw6.ClockNow': WHATEVER THE INPUT: true; the input reads as it did. -/
def clockNowSpec : ChangeSpec := { name := "clockNow", fn := fun _ => fun
  | [d1, d2] => { results := [.lit (.bool true)], args := [d1, d2] }
  | _ => none }
def clockNowRow : OpenClaim := { program := "ytmnfdecakjobjaa", sum := "deb15f2200795093827042b05b04529258d983a87c155a5c88dc899995f02558", func := "blinktree/blinktreelaw6.ClockNow", spec := "clockNow", apart := false }
def ClockNowSaid : Prop := clockNowRow.holds Try.pinned (OpenSpec.ofChange clockNowSpec)

/-- ITS FALSE NEIGHBOUR: 'it returns false'. Refute it at one input. -/
def clockNowWrong : ChangeSpec := { name := "clockNow", fn := fun _ => fun
  | [d1, d2] => { results := [.lit (.bool false)], args := [d1, d2] }
  | _ => none }
def ClockNowWrongFalsely : Prop := clockNowRow.holds Try.pinned (OpenSpec.ofChange clockNowWrong)

/-- 'blinktreelaw6.ClockWaits': WHATEVER THE INPUT: true; the input reads as it did. -/
def clockWaitsSpec : ChangeSpec := { name := "clockWaits", fn := fun _ => fun
  | [d1, d2, d3] => { results := [.lit (.bool true)], args := [d1, d2, d3] }
  | _ => none }
def clockWaitsRow : OpenClaim := { program := "ytmnfdecakjobjaa", sum := "deb15f2200795093827042b05b04529258d983a87c155a5c88dc899995f02558", func := "blinktree/blinktreelaw6.ClockWaits", spec := "clockWaits", apart := false }
def ClockWaitsSaid : Prop := clockWaitsRow.holds Try.pinned (OpenSpec.ofChange clockWaitsSpec)

/-- ITS FALSE NEIGHBOUR: 'it returns false'. Refute it at one input. -/
def clockWaitsWrong : ChangeSpec := { name := "clockWaits", fn := fun _ => fun
  | [d1, d2, d3] => { results := [.lit (.bool false)], args := [d1, d2, d3] }
  | _ => none }
def ClockWaitsWrongFalsely : Prop := clockWaitsRow.holds Try.pinned (OpenSpec.ofChange clockWaitsWrong)

/- THE SECOND FORM. 'bulk': how many values and letters a reading holds, each counted each time it is reached (what is shared counts as often as it is met; a slice's spare places count too). A statement '..UptoSaid' is the law's where the arguments, and the package variables that the reading takes, are together of bulk at most 1048576: NARROWER than '..Said'. Prove '..Said' where nothing that the law and all that it calls make is longer than what came in: it says more and counts as full. Else prove '..UptoSaid'. A law counts once. -/
mutual
def uptoBulk {H : Type} : DataW H → Nat
  | .lit (.string bytes) => bytes.length + 1
  | .lit _ => 1
  | .nil => 1
  | .ptr d => uptoBulk d + 1
  | .slice elems spare => uptoBulkAll elems + uptoBulkAll spare + 1
  | .agg parts => uptoBulkAll parts + 1
  | .iface _ d => uptoBulk d + 1
  | .map entries => uptoBulkEntries entries + 1
  | .held _ => 1
def uptoBulkAll {H : Type} : List (DataW H) → Nat
  | [] => 0
  | d :: r => uptoBulk d + uptoBulkAll r
def uptoBulkEntries {H : Type} : List (Lit × DataW H) → Nat
  | [] => 0
  | x :: r => uptoBulkEntry x + uptoBulkEntries r
def uptoBulkEntry {H : Type} : Lit × DataW H → Nat
  | (.string bytes, d) => bytes.length + uptoBulk d + 1
  | (_, d) => uptoBulk d + 1
 end
def uptoSmall : (H : Type) → List (DataW H) → Bool := fun _ ds => decide (uptoBulkAll ds ≤ 1048576)
def OpenSpec.upto (s : _root_.Go.ChangeSpec) : _root_.Go.OpenSpec := { _root_.Go.OpenSpec.ofChange s with cond := some uptoSmall }

/-- 'blinktreelaw6.ClockPublishes', WHERE WHAT IT READS IS OF BULK AT MOST 1048576: true; the input reads as it did. -/
def clockPublishesUptoRow : OpenClaim := { program := "ytmnfdecakjobjaa", sum := "deb15f2200795093827042b05b04529258d983a87c155a5c88dc899995f02558", func := "blinktree/blinktreelaw6.ClockPublishes", spec := "clockPublishes", apart := false, narrowed := true }
def ClockPublishesUptoSaid : Prop := clockPublishesUptoRow.holds Try.pinned (OpenSpec.upto clockPublishesSpec)

/-- 'blinktreelaw6.ClockNow', WHERE WHAT IT READS IS OF BULK AT MOST 1048576: true; the input reads as it did. -/
def clockNowUptoRow : OpenClaim := { program := "ytmnfdecakjobjaa", sum := "deb15f2200795093827042b05b04529258d983a87c155a5c88dc899995f02558", func := "blinktree/blinktreelaw6.ClockNow", spec := "clockNow", apart := false, narrowed := true }
def ClockNowUptoSaid : Prop := clockNowUptoRow.holds Try.pinned (OpenSpec.upto clockNowSpec)

/-- 'blinktreelaw6.ClockWaits', WHERE WHAT IT READS IS OF BULK AT MOST 1048576: true; the input reads as it did. -/
def clockWaitsUptoRow : OpenClaim := { program := "ytmnfdecakjobjaa", sum := "deb15f2200795093827042b05b04529258d983a87c155a5c88dc899995f02558", func := "blinktree/blinktreelaw6.ClockWaits", spec := "clockWaits", apart := false, narrowed := true }
def ClockWaitsUptoSaid : Prop := clockWaitsUptoRow.holds Try.pinned (OpenSpec.upto clockWaitsSpec)

end Rows
end Go.Proofs.Ytmnfdecakjobjaa
