/-
  No cell of these rows narrows 'for every input' (looked for: loops, veiled, ifaces, maps, wideKeys, modest, calm, conditions, laid).
  DERIVED. THE GIVEN ROWS OF THIS SEAT. 6 by the template 'for every input the law returns true; each argument reads behind the call as it read before'; 0 by the template 'total and deterministic' (their statements: YtegbdpelnmaijaaTotals.lean).
  GIVEN WITH THE SEED: the statements are not yours to turn. If you find one false, say at which input.
  Laid BY PROGRAM, IN A SANDBOX (cutbox-rows.mjs): the forced cells as the released guide's own fill.sh prints them over the translation aae9ffb155b35aef… (all of the seat's roots in one cut). By AI agents, Wed Nov 11 2026. No macro, syntax, notation, axiom, sorry.
-/
import Derived.Test.YtegbdpelnmaijaaChecked
import GoSem.Claim
import GoSem.ClaimJoined
import GoSem.ClaimMapViews
import Derived.JoinedTies
import Derived.KernelRfl
namespace Go.Proofs.Ytegbdpelnmaijaa
/- THE CELL 'sum', in the pinned program and in every row, IS THE sha256 OF THE DUMP (.gsa) THAT YtegbdpelnmaijaaProg.lean LOADS. Nothing in Lean hashes anything: it is a label: what it is worth is what the hold of that sum in a sandbox is worth. -/
noncomputable def Try.pinned : Pinned := { name := "ytegbdpelnmaijaa", sum := "aae9ffb155b35aefc30d18501da8a8317a785db722d7f35afaa5dc6b3909e907", checked := Try.checked }
namespace Rows
def none {H : Type} : Left H := { results := [], args := [] }

/-- 'blinktreelaw7.PageChecks': WHATEVER THE INPUT: true; the input reads as it did. -/
def pageChecksSpec : ChangeSpec := { name := "pageChecks", fn := fun _ => fun
  | [d1, d2] => { results := [.lit (.bool true)], args := [d1, d2] }
  | _ => none }
def pageChecksRow : OpenClaim := { program := "ytegbdpelnmaijaa", sum := "aae9ffb155b35aefc30d18501da8a8317a785db722d7f35afaa5dc6b3909e907", func := "blinktree/blinktreelaw7.PageChecks", spec := "pageChecks", apart := false }
def PageChecksSaid : Prop := pageChecksRow.holds Try.pinned (OpenSpec.ofChange pageChecksSpec)

/-- ITS FALSE NEIGHBOUR: 'it returns false'. Refute it at one input. -/
def pageChecksWrong : ChangeSpec := { name := "pageChecks", fn := fun _ => fun
  | [d1, d2] => { results := [.lit (.bool false)], args := [d1, d2] }
  | _ => none }
def PageChecksWrongFalsely : Prop := pageChecksRow.holds Try.pinned (OpenSpec.ofChange pageChecksWrong)

/-- 'blinktreelaw7.PageSearches': WHATEVER THE INPUT: true; the input reads as it did. -/
def pageSearchesSpec : ChangeSpec := { name := "pageSearches", fn := fun _ => fun
  | [d1, d2, d3, d4] => { results := [.lit (.bool true)], args := [d1, d2, d3, d4] }
  | _ => none }
def pageSearchesRow : OpenClaim := { program := "ytegbdpelnmaijaa", sum := "aae9ffb155b35aefc30d18501da8a8317a785db722d7f35afaa5dc6b3909e907", func := "blinktree/blinktreelaw7.PageSearches", spec := "pageSearches", unfollowed := true, recurses := true, apart := false }
def PageSearchesSaid : Prop := pageSearchesRow.holds Try.pinned (OpenSpec.ofChange pageSearchesSpec)

/-- ITS FALSE NEIGHBOUR: 'it returns false'. Refute it at one input. -/
def pageSearchesWrong : ChangeSpec := { name := "pageSearches", fn := fun _ => fun
  | [d1, d2, d3, d4] => { results := [.lit (.bool false)], args := [d1, d2, d3, d4] }
  | _ => none }
def PageSearchesWrongFalsely : Prop := pageSearchesRow.holds Try.pinned (OpenSpec.ofChange pageSearchesWrong)

/-- 'blinktreelaw7.PageInserts': WHATEVER THE INPUT: true; the input reads as it did. -/
def pageInsertsSpec : ChangeSpec := { name := "pageInserts", fn := fun _ => fun
  | [d1, d2, d3, d4] => { results := [.lit (.bool true)], args := [d1, d2, d3, d4] }
  | _ => none }
def pageInsertsRow : OpenClaim := { program := "ytegbdpelnmaijaa", sum := "aae9ffb155b35aefc30d18501da8a8317a785db722d7f35afaa5dc6b3909e907", func := "blinktree/blinktreelaw7.PageInserts", spec := "pageInserts", unfollowed := true, recurses := true, apart := false }
def PageInsertsSaid : Prop := pageInsertsRow.holds Try.pinned (OpenSpec.ofChange pageInsertsSpec)

/-- ITS FALSE NEIGHBOUR: 'it returns false'. Refute it at one input. -/
def pageInsertsWrong : ChangeSpec := { name := "pageInserts", fn := fun _ => fun
  | [d1, d2, d3, d4] => { results := [.lit (.bool false)], args := [d1, d2, d3, d4] }
  | _ => none }
def PageInsertsWrongFalsely : Prop := pageInsertsRow.holds Try.pinned (OpenSpec.ofChange pageInsertsWrong)

/-- 'blinktreelaw7.PageRemoves': WHATEVER THE INPUT: true; the input reads as it did. -/
def pageRemovesSpec : ChangeSpec := { name := "pageRemoves", fn := fun _ => fun
  | [d1, d2, d3] => { results := [.lit (.bool true)], args := [d1, d2, d3] }
  | _ => none }
def pageRemovesRow : OpenClaim := { program := "ytegbdpelnmaijaa", sum := "aae9ffb155b35aefc30d18501da8a8317a785db722d7f35afaa5dc6b3909e907", func := "blinktree/blinktreelaw7.PageRemoves", spec := "pageRemoves", unfollowed := true, recurses := true, apart := false }
def PageRemovesSaid : Prop := pageRemovesRow.holds Try.pinned (OpenSpec.ofChange pageRemovesSpec)

/-- ITS FALSE NEIGHBOUR: 'it returns false'. Refute it at one input. -/
def pageRemovesWrong : ChangeSpec := { name := "pageRemoves", fn := fun _ => fun
  | [d1, d2, d3] => { results := [.lit (.bool false)], args := [d1, d2, d3] }
  | _ => none }
def PageRemovesWrongFalsely : Prop := pageRemovesRow.holds Try.pinned (OpenSpec.ofChange pageRemovesWrong)

/-- 'blinktreelaw7.PageInsertsAndRemoves': WHATEVER THE INPUT: true; the input reads as it did. -/
def pageInsertsAndRemovesSpec : ChangeSpec := { name := "pageInsertsAndRemoves", fn := fun _ => fun
  | [d1, d2, d3, d4, d5] => { results := [.lit (.bool true)], args := [d1, d2, d3, d4, d5] }
  | _ => none }
def pageInsertsAndRemovesRow : OpenClaim := { program := "ytegbdpelnmaijaa", sum := "aae9ffb155b35aefc30d18501da8a8317a785db722d7f35afaa5dc6b3909e907", func := "blinktree/blinktreelaw7.PageInsertsAndRemoves", spec := "pageInsertsAndRemoves", unfollowed := true, recurses := true, apart := false }
def PageInsertsAndRemovesSaid : Prop := pageInsertsAndRemovesRow.holds Try.pinned (OpenSpec.ofChange pageInsertsAndRemovesSpec)

/-- ITS FALSE NEIGHBOUR: 'it returns false'. Refute it at one input. -/
def pageInsertsAndRemovesWrong : ChangeSpec := { name := "pageInsertsAndRemoves", fn := fun _ => fun
  | [d1, d2, d3, d4, d5] => { results := [.lit (.bool false)], args := [d1, d2, d3, d4, d5] }
  | _ => none }
def PageInsertsAndRemovesWrongFalsely : Prop := pageInsertsAndRemovesRow.holds Try.pinned (OpenSpec.ofChange pageInsertsAndRemovesWrong)

/-- 'blinktreelaw7.PageNeighbors': WHATEVER THE INPUT: true; the input reads as it did. -/
def pageNeighborsSpec : ChangeSpec := { name := "pageNeighbors", fn := fun _ => fun
  | [d1, d2, d3] => { results := [.lit (.bool true)], args := [d1, d2, d3] }
  | _ => none }
def pageNeighborsRow : OpenClaim := { program := "ytegbdpelnmaijaa", sum := "aae9ffb155b35aefc30d18501da8a8317a785db722d7f35afaa5dc6b3909e907", func := "blinktree/blinktreelaw7.PageNeighbors", spec := "pageNeighbors", unfollowed := true, recurses := true, apart := false }
def PageNeighborsSaid : Prop := pageNeighborsRow.holds Try.pinned (OpenSpec.ofChange pageNeighborsSpec)

/-- ITS FALSE NEIGHBOUR: 'it returns false'. Refute it at one input. -/
def pageNeighborsWrong : ChangeSpec := { name := "pageNeighbors", fn := fun _ => fun
  | [d1, d2, d3] => { results := [.lit (.bool false)], args := [d1, d2, d3] }
  | _ => none }
def PageNeighborsWrongFalsely : Prop := pageNeighborsRow.holds Try.pinned (OpenSpec.ofChange pageNeighborsWrong)

/- THE SECOND FORM. 'bulk': how many values and letters a reading holds, each counted each time it is reached (what is shared counts as often as it is met; a slice's spare places count too). A statement '..UptoSaid' is the law's where the arguments, and the package variables that the reading takes, are together of bulk at most 1048576: NARROWER than '..Said'. Prove '..Said' where nothing that the law and all that it calls make is longer than what came in: it says more and counts as full. Else prove '..UptoSaid'. A law counts once. -/
mutual
def uptoBulk {H : Type} : DataW H → Nat
  | .lit (.string bytes) => bytes.length + 1
  | .lit _ => 1
  | .nil => 1
  | .ptr d => uptoBulk d + 1
  | .slice elems spare => uptoBulkAll elems + uptoBulkAll spare + 1
  | .agg parts => uptoBulkAll parts + 1
  | .iface _ d => uptoBulk d + 1
  | .map entries => uptoBulkEntries entries + 1
  | .held _ => 1
def uptoBulkAll {H : Type} : List (DataW H) → Nat
  | [] => 0
  | d :: r => uptoBulk d + uptoBulkAll r
def uptoBulkEntries {H : Type} : List (Lit × DataW H) → Nat
  | [] => 0
  | x :: r => uptoBulkEntry x + uptoBulkEntries r
def uptoBulkEntry {H : Type} : Lit × DataW H → Nat
  | (.string bytes, d) => bytes.length + uptoBulk d + 1
  | (_, d) => uptoBulk d + 1
 end
def uptoSmall : (H : Type) → List (DataW H) → Bool := fun _ ds => decide (uptoBulkAll ds ≤ 1048576)
def OpenSpec.upto (s : _root_.Go.ChangeSpec) : _root_.Go.OpenSpec := { _root_.Go.OpenSpec.ofChange s with cond := some uptoSmall }

/-- 'blinktreelaw7.PageChecks', WHERE WHAT IT READS IS OF BULK AT MOST 1048576: true; the input reads as it did. -/
def pageChecksUptoRow : OpenClaim := { program := "ytegbdpelnmaijaa", sum := "aae9ffb155b35aefc30d18501da8a8317a785db722d7f35afaa5dc6b3909e907", func := "blinktree/blinktreelaw7.PageChecks", spec := "pageChecks", apart := false, narrowed := true }
def PageChecksUptoSaid : Prop := pageChecksUptoRow.holds Try.pinned (OpenSpec.upto pageChecksSpec)

/-- 'blinktreelaw7.PageSearches', WHERE WHAT IT READS IS OF BULK AT MOST 1048576: true; the input reads as it did. -/
def pageSearchesUptoRow : OpenClaim := { program := "ytegbdpelnmaijaa", sum := "aae9ffb155b35aefc30d18501da8a8317a785db722d7f35afaa5dc6b3909e907", func := "blinktree/blinktreelaw7.PageSearches", spec := "pageSearches", unfollowed := true, recurses := true, apart := false, narrowed := true }
def PageSearchesUptoSaid : Prop := pageSearchesUptoRow.holds Try.pinned (OpenSpec.upto pageSearchesSpec)

/-- 'blinktreelaw7.PageInserts', WHERE WHAT IT READS IS OF BULK AT MOST 1048576: true; the input reads as it did. -/
def pageInsertsUptoRow : OpenClaim := { program := "ytegbdpelnmaijaa", sum := "aae9ffb155b35aefc30d18501da8a8317a785db722d7f35afaa5dc6b3909e907", func := "blinktree/blinktreelaw7.PageInserts", spec := "pageInserts", unfollowed := true, recurses := true, apart := false, narrowed := true }
def PageInsertsUptoSaid : Prop := pageInsertsUptoRow.holds Try.pinned (OpenSpec.upto pageInsertsSpec)

/-- 'blinktreelaw7.PageRemoves', WHERE WHAT IT READS IS OF BULK AT MOST 1048576: true; the input reads as it did. -/
def pageRemovesUptoRow : OpenClaim := { program := "ytegbdpelnmaijaa", sum := "aae9ffb155b35aefc30d18501da8a8317a785db722d7f35afaa5dc6b3909e907", func := "blinktree/blinktreelaw7.PageRemoves", spec := "pageRemoves", unfollowed := true, recurses := true, apart := false, narrowed := true }
def PageRemovesUptoSaid : Prop := pageRemovesUptoRow.holds Try.pinned (OpenSpec.upto pageRemovesSpec)

/-- 'blinktreelaw7.PageInsertsAndRemoves', WHERE WHAT IT READS IS OF BULK AT MOST 1048576: true; the input reads as it did. -/
def pageInsertsAndRemovesUptoRow : OpenClaim := { program := "ytegbdpelnmaijaa", sum := "aae9ffb155b35aefc30d18501da8a8317a785db722d7f35afaa5dc6b3909e907", func := "blinktree/blinktreelaw7.PageInsertsAndRemoves", spec := "pageInsertsAndRemoves", unfollowed := true, recurses := true, apart := false, narrowed := true }
def PageInsertsAndRemovesUptoSaid : Prop := pageInsertsAndRemovesUptoRow.holds Try.pinned (OpenSpec.upto pageInsertsAndRemovesSpec)

/-- 'blinktreelaw7.PageNeighbors', WHERE WHAT IT READS IS OF BULK AT MOST 1048576: true; the input reads as it did. -/
def pageNeighborsUptoRow : OpenClaim := { program := "ytegbdpelnmaijaa", sum := "aae9ffb155b35aefc30d18501da8a8317a785db722d7f35afaa5dc6b3909e907", func := "blinktree/blinktreelaw7.PageNeighbors", spec := "pageNeighbors", unfollowed := true, recurses := true, apart := false, narrowed := true }
def PageNeighborsUptoSaid : Prop := pageNeighborsUptoRow.holds Try.pinned (OpenSpec.upto pageNeighborsSpec)

end Rows
end Go.Proofs.Ytegbdpelnmaijaa
