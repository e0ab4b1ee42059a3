/-
  No cell of these rows narrows 'for every input' (looked for: loops, veiled, ifaces, maps, wideKeys, modest, calm, conditions, laid).
  DERIVED. THE GIVEN ROWS OF THIS SEAT. 5 by the template 'for every input the law returns true; each argument reads behind the call as it read before'; 0 by the template 'total and deterministic' (their statements: YtfbfhlolnooipaaTotals.lean).
  GIVEN WITH THE SEED: the statements are not yours to turn. If you find one false, say at which input.
  Laid BY PROGRAM, IN A SANDBOX (cutbox-rows.mjs): the forced cells as the released guide's own fill.sh prints them over the translation b720f4e883281839… (all of the seat's roots in one cut). By AI agents, Wed Nov 11 2026. No macro, syntax, notation, axiom, sorry.
-/
import Derived.Test.YtfbfhlolnooipaaChecked
import GoSem.Claim
import GoSem.ClaimJoined
import GoSem.ClaimMapViews
import Derived.JoinedTies
import Derived.KernelRfl
namespace Go.Proofs.Ytfbfhlolnooipaa
/- THE CELL 'sum', in the pinned program and in every row, IS THE sha256 OF THE DUMP (.gsa) THAT YtfbfhlolnooipaaProg.lean LOADS. Nothing in Lean hashes anything: it is a label: what it is worth is what the hold of that sum in a sandbox is worth. -/
noncomputable def Try.pinned : Pinned := { name := "ytfbfhlolnooipaa", sum := "b720f4e883281839f1649aaf448fa4a42d770dfaae6de6009b4aa224087dccb1", checked := Try.checked }
namespace Rows
def none {H : Type} : Left H := { results := [], args := [] }

/-- 'blinktreelaw3.LayoutValidates': WHATEVER THE INPUT: true; the input reads as it did. -/
def layoutValidatesSpec : ChangeSpec := { name := "layoutValidates", fn := fun _ => fun
  | [d] => { results := [.lit (.bool true)], args := [d] }
  | _ => none }
def layoutValidatesRow : OpenClaim := { program := "ytfbfhlolnooipaa", sum := "b720f4e883281839f1649aaf448fa4a42d770dfaae6de6009b4aa224087dccb1", func := "blinktree/blinktreelaw3.LayoutValidates", spec := "layoutValidates", apart := false }
def LayoutValidatesSaid : Prop := layoutValidatesRow.holds Try.pinned (OpenSpec.ofChange layoutValidatesSpec)

/-- ITS FALSE NEIGHBOUR: 'it returns false'. Refute it at one input. -/
def layoutValidatesWrong : ChangeSpec := { name := "layoutValidates", fn := fun _ => fun
  | [d] => { results := [.lit (.bool false)], args := [d] }
  | _ => none }
def LayoutValidatesWrongFalsely : Prop := layoutValidatesRow.holds Try.pinned (OpenSpec.ofChange layoutValidatesWrong)

/-- 'blinktreelaw3.LayoutAddresses': WHATEVER THE INPUT: true; the input reads as it did. -/
def layoutAddressesSpec : ChangeSpec := { name := "layoutAddresses", fn := fun _ => fun
  | [d1, d2, d3, d4, d5] => { results := [.lit (.bool true)], args := [d1, d2, d3, d4, d5] }
  | _ => none }
def layoutAddressesRow : OpenClaim := { program := "ytfbfhlolnooipaa", sum := "b720f4e883281839f1649aaf448fa4a42d770dfaae6de6009b4aa224087dccb1", func := "blinktree/blinktreelaw3.LayoutAddresses", spec := "layoutAddresses", apart := false }
def LayoutAddressesSaid : Prop := layoutAddressesRow.holds Try.pinned (OpenSpec.ofChange layoutAddressesSpec)

/-- ITS FALSE NEIGHBOUR: 'it returns false'. Refute it at one input. -/
def layoutAddressesWrong : ChangeSpec := { name := "layoutAddresses", fn := fun _ => fun
  | [d1, d2, d3, d4, d5] => { results := [.lit (.bool false)], args := [d1, d2, d3, d4, d5] }
  | _ => none }
def LayoutAddressesWrongFalsely : Prop := layoutAddressesRow.holds Try.pinned (OpenSpec.ofChange layoutAddressesWrong)

/-- 'blinktreelaw3.LayoutIsExact': WHATEVER THE INPUT: true; the input reads as it did. -/
def layoutIsExactSpec : ChangeSpec := { name := "layoutIsExact", fn := fun _ => fun
  | [d] => { results := [.lit (.bool true)], args := [d] }
  | _ => none }
def layoutIsExactRow : OpenClaim := { program := "ytfbfhlolnooipaa", sum := "b720f4e883281839f1649aaf448fa4a42d770dfaae6de6009b4aa224087dccb1", func := "blinktree/blinktreelaw3.LayoutIsExact", spec := "layoutIsExact", apart := false }
def LayoutIsExactSaid : Prop := layoutIsExactRow.holds Try.pinned (OpenSpec.ofChange layoutIsExactSpec)

/-- ITS FALSE NEIGHBOUR: 'it returns false'. Refute it at one input. -/
def layoutIsExactWrong : ChangeSpec := { name := "layoutIsExact", fn := fun _ => fun
  | [d] => { results := [.lit (.bool false)], args := [d] }
  | _ => none }
def LayoutIsExactWrongFalsely : Prop := layoutIsExactRow.holds Try.pinned (OpenSpec.ofChange layoutIsExactWrong)

/-- 'blinktreelaw3.LayoutStarts': WHATEVER THE INPUT: true; the input reads as it did. -/
def layoutStartsSpec : ChangeSpec := { name := "layoutStarts", fn := fun _ => fun
  | [d] => { results := [.lit (.bool true)], args := [d] }
  | _ => none }
def layoutStartsRow : OpenClaim := { program := "ytfbfhlolnooipaa", sum := "b720f4e883281839f1649aaf448fa4a42d770dfaae6de6009b4aa224087dccb1", func := "blinktree/blinktreelaw3.LayoutStarts", spec := "layoutStarts", apart := false }
def LayoutStartsSaid : Prop := layoutStartsRow.holds Try.pinned (OpenSpec.ofChange layoutStartsSpec)

/-- ITS FALSE NEIGHBOUR: 'it returns false'. Refute it at one input. -/
def layoutStartsWrong : ChangeSpec := { name := "layoutStarts", fn := fun _ => fun
  | [d] => { results := [.lit (.bool false)], args := [d] }
  | _ => none }
def LayoutStartsWrongFalsely : Prop := layoutStartsRow.holds Try.pinned (OpenSpec.ofChange layoutStartsWrong)

/-- 'blinktreelaw3.LayoutRegions': WHATEVER THE INPUT: true; the input reads as it did. -/
def layoutRegionsSpec : ChangeSpec := { name := "layoutRegions", fn := fun _ => fun
  | [d1, d2, d3, d4, d5, d6, d7] => { results := [.lit (.bool true)], args := [d1, d2, d3, d4, d5, d6, d7] }
  | _ => none }
def layoutRegionsRow : OpenClaim := { program := "ytfbfhlolnooipaa", sum := "b720f4e883281839f1649aaf448fa4a42d770dfaae6de6009b4aa224087dccb1", func := "blinktree/blinktreelaw3.LayoutRegions", spec := "layoutRegions", apart := false }
def LayoutRegionsSaid : Prop := layoutRegionsRow.holds Try.pinned (OpenSpec.ofChange layoutRegionsSpec)

/-- ITS FALSE NEIGHBOUR: 'it returns false'. Refute it at one input. -/
def layoutRegionsWrong : ChangeSpec := { name := "layoutRegions", fn := fun _ => fun
  | [d1, d2, d3, d4, d5, d6, d7] => { results := [.lit (.bool false)], args := [d1, d2, d3, d4, d5, d6, d7] }
  | _ => none }
def LayoutRegionsWrongFalsely : Prop := layoutRegionsRow.holds Try.pinned (OpenSpec.ofChange layoutRegionsWrong)

/- THE SECOND FORM. 'bulk': how many values and letters a reading holds, each counted each time it is reached (what is shared counts as often as it is met; a slice's spare places count too). A statement '..UptoSaid' is the law's where the arguments, and the package variables that the reading takes, are together of bulk at most 1048576: NARROWER than '..Said'. Prove '..Said' where nothing that the law and all that it calls make is longer than what came in: it says more and counts as full. Else prove '..UptoSaid'. A law counts once. -/
mutual
def uptoBulk {H : Type} : DataW H → Nat
  | .lit (.string bytes) => bytes.length + 1
  | .lit _ => 1
  | .nil => 1
  | .ptr d => uptoBulk d + 1
  | .slice elems spare => uptoBulkAll elems + uptoBulkAll spare + 1
  | .agg parts => uptoBulkAll parts + 1
  | .iface _ d => uptoBulk d + 1
  | .map entries => uptoBulkEntries entries + 1
  | .held _ => 1
def uptoBulkAll {H : Type} : List (DataW H) → Nat
  | [] => 0
  | d :: r => uptoBulk d + uptoBulkAll r
def uptoBulkEntries {H : Type} : List (Lit × DataW H) → Nat
  | [] => 0
  | x :: r => uptoBulkEntry x + uptoBulkEntries r
def uptoBulkEntry {H : Type} : Lit × DataW H → Nat
  | (.string bytes, d) => bytes.length + uptoBulk d + 1
  | (_, d) => uptoBulk d + 1
 end
def uptoSmall : (H : Type) → List (DataW H) → Bool := fun _ ds => decide (uptoBulkAll ds ≤ 1048576)
def OpenSpec.upto (s : _root_.Go.ChangeSpec) : _root_.Go.OpenSpec := { _root_.Go.OpenSpec.ofChange s with cond := some uptoSmall }

/-- 'blinktreelaw3.LayoutValidates', WHERE WHAT IT READS IS OF BULK AT MOST 1048576: true; the input reads as it did. -/
def layoutValidatesUptoRow : OpenClaim := { program := "ytfbfhlolnooipaa", sum := "b720f4e883281839f1649aaf448fa4a42d770dfaae6de6009b4aa224087dccb1", func := "blinktree/blinktreelaw3.LayoutValidates", spec := "layoutValidates", apart := false, narrowed := true }
def LayoutValidatesUptoSaid : Prop := layoutValidatesUptoRow.holds Try.pinned (OpenSpec.upto layoutValidatesSpec)

/-- 'blinktreelaw3.LayoutAddresses', WHERE WHAT IT READS IS OF BULK AT MOST 1048576: true; the input reads as it did. -/
def layoutAddressesUptoRow : OpenClaim := { program := "ytfbfhlolnooipaa", sum := "b720f4e883281839f1649aaf448fa4a42d770dfaae6de6009b4aa224087dccb1", func := "blinktree/blinktreelaw3.LayoutAddresses", spec := "layoutAddresses", apart := false, narrowed := true }
def LayoutAddressesUptoSaid : Prop := layoutAddressesUptoRow.holds Try.pinned (OpenSpec.upto layoutAddressesSpec)

/-- 'blinktreelaw3.LayoutIsExact', WHERE WHAT IT READS IS OF BULK AT MOST 1048576: true; the input reads as it did. -/
def layoutIsExactUptoRow : OpenClaim := { program := "ytfbfhlolnooipaa", sum := "b720f4e883281839f1649aaf448fa4a42d770dfaae6de6009b4aa224087dccb1", func := "blinktree/blinktreelaw3.LayoutIsExact", spec := "layoutIsExact", apart := false, narrowed := true }
def LayoutIsExactUptoSaid : Prop := layoutIsExactUptoRow.holds Try.pinned (OpenSpec.upto layoutIsExactSpec)

/-- 'blinktreelaw3.LayoutStarts', WHERE WHAT IT READS IS OF BULK AT MOST 1048576: true; the input reads as it did. -/
def layoutStartsUptoRow : OpenClaim := { program := "ytfbfhlolnooipaa", sum := "b720f4e883281839f1649aaf448fa4a42d770dfaae6de6009b4aa224087dccb1", func := "blinktree/blinktreelaw3.LayoutStarts", spec := "layoutStarts", apart := false, narrowed := true }
def LayoutStartsUptoSaid : Prop := layoutStartsUptoRow.holds Try.pinned (OpenSpec.upto layoutStartsSpec)

/-- 'blinktreelaw3.LayoutRegions', WHERE WHAT IT READS IS OF BULK AT MOST 1048576: true; the input reads as it did. -/
def layoutRegionsUptoRow : OpenClaim := { program := "ytfbfhlolnooipaa", sum := "b720f4e883281839f1649aaf448fa4a42d770dfaae6de6009b4aa224087dccb1", func := "blinktree/blinktreelaw3.LayoutRegions", spec := "layoutRegions", apart := false, narrowed := true }
def LayoutRegionsUptoSaid : Prop := layoutRegionsUptoRow.holds Try.pinned (OpenSpec.upto layoutRegionsSpec)

end Rows
end Go.Proofs.Ytfbfhlolnooipaa
