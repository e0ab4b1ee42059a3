/-
  No cell of these rows narrows 'for every input' (looked for: loops, veiled, ifaces, maps, wideKeys, modest, calm, conditions, laid).
  DERIVED. THE GIVEN ROWS OF THIS SEAT. 5 by the template 'for every input the law returns true; each argument reads behind the call as it read before'; 0 by the template 'total and deterministic' (their statements: YtodenkamlbihnaaTotals.lean).
  GIVEN WITH THE SEED: the statements are not yours to turn. If you find one false, say at which input.
  Laid BY PROGRAM, IN A SANDBOX (cutbox-rows.mjs): the forced cells as the released guide's own fill.sh prints them over the translation 3a4ccf93c652ddaa… (all of the seat's roots in one cut). By AI agents, Wed Nov 11 2026. No macro, syntax, notation, axiom, sorry.
-/
import Derived.Test.YtodenkamlbihnaaChecked
import GoSem.Claim
import GoSem.ClaimJoined
import GoSem.ClaimMapViews
import Derived.JoinedTies
import Derived.KernelRfl
namespace Go.Proofs.Ytodenkamlbihnaa
/- THE CELL 'sum', in the pinned program and in every row, IS THE sha256 OF THE DUMP (.gsa) THAT YtodenkamlbihnaaProg.lean LOADS. Nothing in Lean hashes anything: it is a label: what it is worth is what the hold of that sum in a sandbox is worth. -/
noncomputable def Try.pinned : Pinned := { name := "ytodenkamlbihnaa", sum := "3a4ccf93c652ddaae1844e19388e49cd4ec0076bfc223b7d741fca12d1a10b55", checked := Try.checked }
namespace Rows
def none {H : Type} : Left H := { results := [], args := [] }

/-- 'blinktreelaw21.ModelAgrees': WHATEVER THE INPUT: true; the input reads as it did. -/
def modelAgreesSpec : ChangeSpec := { name := "modelAgrees", fn := fun _ => fun
  | [d1, d2, d3] => { results := [.lit (.bool true)], args := [d1, d2, d3] }
  | _ => none }
def modelAgreesRow : OpenClaim := { program := "ytodenkamlbihnaa", sum := "3a4ccf93c652ddaae1844e19388e49cd4ec0076bfc223b7d741fca12d1a10b55", func := "blinktree/blinktreelaw21.ModelAgrees", spec := "modelAgrees", unfollowed := true, recurses := true, plainKeys := false, apart := false }
def ModelAgreesSaid : Prop := modelAgreesRow.holds Try.pinned (OpenSpec.ofChange modelAgreesSpec)

/-- ITS FALSE NEIGHBOUR: 'it returns false'. Refute it at one input. -/
def modelAgreesWrong : ChangeSpec := { name := "modelAgrees", fn := fun _ => fun
  | [d1, d2, d3] => { results := [.lit (.bool false)], args := [d1, d2, d3] }
  | _ => none }
def ModelAgreesWrongFalsely : Prop := modelAgreesRow.holds Try.pinned (OpenSpec.ofChange modelAgreesWrong)

/-- 'blinktreelaw21.ModelSnapshots': WHATEVER THE INPUT: true; the input reads as it did. -/
def modelSnapshotsSpec : ChangeSpec := { name := "modelSnapshots", fn := fun _ => fun
  | [d] => { results := [.lit (.bool true)], args := [d] }
  | _ => none }
def modelSnapshotsRow : OpenClaim := { program := "ytodenkamlbihnaa", sum := "3a4ccf93c652ddaae1844e19388e49cd4ec0076bfc223b7d741fca12d1a10b55", func := "blinktree/blinktreelaw21.ModelSnapshots", spec := "modelSnapshots", unfollowed := true, recurses := true, plainKeys := false, apart := false }
def ModelSnapshotsSaid : Prop := modelSnapshotsRow.holds Try.pinned (OpenSpec.ofChange modelSnapshotsSpec)

/-- ITS FALSE NEIGHBOUR: 'it returns false'. Refute it at one input. -/
def modelSnapshotsWrong : ChangeSpec := { name := "modelSnapshots", fn := fun _ => fun
  | [d] => { results := [.lit (.bool false)], args := [d] }
  | _ => none }
def ModelSnapshotsWrongFalsely : Prop := modelSnapshotsRow.holds Try.pinned (OpenSpec.ofChange modelSnapshotsWrong)

/-- 'blinktreelaw21.ModelFloor': WHATEVER THE INPUT: true; the input reads as it did. -/
def modelFloorSpec : ChangeSpec := { name := "modelFloor", fn := fun _ => fun
  | [d] => { results := [.lit (.bool true)], args := [d] }
  | _ => none }
def modelFloorRow : OpenClaim := { program := "ytodenkamlbihnaa", sum := "3a4ccf93c652ddaae1844e19388e49cd4ec0076bfc223b7d741fca12d1a10b55", func := "blinktree/blinktreelaw21.ModelFloor", spec := "modelFloor", unfollowed := true, recurses := true, plainKeys := false, apart := false }
def ModelFloorSaid : Prop := modelFloorRow.holds Try.pinned (OpenSpec.ofChange modelFloorSpec)

/-- ITS FALSE NEIGHBOUR: 'it returns false'. Refute it at one input. -/
def modelFloorWrong : ChangeSpec := { name := "modelFloor", fn := fun _ => fun
  | [d] => { results := [.lit (.bool false)], args := [d] }
  | _ => none }
def ModelFloorWrongFalsely : Prop := modelFloorRow.holds Try.pinned (OpenSpec.ofChange modelFloorWrong)

/-- 'blinktreelaw21.ModelIsPersistent': WHATEVER THE INPUT: true; the input reads as it did. -/
def modelIsPersistentSpec : ChangeSpec := { name := "modelIsPersistent", fn := fun _ => fun
  | [d1, d2, d3] => { results := [.lit (.bool true)], args := [d1, d2, d3] }
  | _ => none }
def modelIsPersistentRow : OpenClaim := { program := "ytodenkamlbihnaa", sum := "3a4ccf93c652ddaae1844e19388e49cd4ec0076bfc223b7d741fca12d1a10b55", func := "blinktree/blinktreelaw21.ModelIsPersistent", spec := "modelIsPersistent", unfollowed := true, recurses := true, plainKeys := false, apart := false }
def ModelIsPersistentSaid : Prop := modelIsPersistentRow.holds Try.pinned (OpenSpec.ofChange modelIsPersistentSpec)

/-- ITS FALSE NEIGHBOUR: 'it returns false'. Refute it at one input. -/
def modelIsPersistentWrong : ChangeSpec := { name := "modelIsPersistent", fn := fun _ => fun
  | [d1, d2, d3] => { results := [.lit (.bool false)], args := [d1, d2, d3] }
  | _ => none }
def ModelIsPersistentWrongFalsely : Prop := modelIsPersistentRow.holds Try.pinned (OpenSpec.ofChange modelIsPersistentWrong)

/-- 'blinktreelaw21.ModelGets': WHATEVER THE INPUT: true; the input reads as it did. -/
def modelGetsSpec : ChangeSpec := { name := "modelGets", fn := fun _ => fun
  | [d1, d2, d3] => { results := [.lit (.bool true)], args := [d1, d2, d3] }
  | _ => none }
def modelGetsRow : OpenClaim := { program := "ytodenkamlbihnaa", sum := "3a4ccf93c652ddaae1844e19388e49cd4ec0076bfc223b7d741fca12d1a10b55", func := "blinktree/blinktreelaw21.ModelGets", spec := "modelGets", unfollowed := true, recurses := true, plainKeys := false, apart := false }
def ModelGetsSaid : Prop := modelGetsRow.holds Try.pinned (OpenSpec.ofChange modelGetsSpec)

/-- ITS FALSE NEIGHBOUR: 'it returns false'. Refute it at one input. -/
def modelGetsWrong : ChangeSpec := { name := "modelGets", fn := fun _ => fun
  | [d1, d2, d3] => { results := [.lit (.bool false)], args := [d1, d2, d3] }
  | _ => none }
def ModelGetsWrongFalsely : Prop := modelGetsRow.holds Try.pinned (OpenSpec.ofChange modelGetsWrong)

/- THE SECOND FORM. 'bulk': how many values and letters a reading holds, each counted each time it is reached (what is shared counts as often as it is met; a slice's spare places count too). A statement '..UptoSaid' is the law's where the arguments, and the package variables that the reading takes, are together of bulk at most 1048576: NARROWER than '..Said'. Prove '..Said' where nothing that the law and all that it calls make is longer than what came in: it says more and counts as full. Else prove '..UptoSaid'. A law counts once. -/
mutual
def uptoBulk {H : Type} : DataW H → Nat
  | .lit (.string bytes) => bytes.length + 1
  | .lit _ => 1
  | .nil => 1
  | .ptr d => uptoBulk d + 1
  | .slice elems spare => uptoBulkAll elems + uptoBulkAll spare + 1
  | .agg parts => uptoBulkAll parts + 1
  | .iface _ d => uptoBulk d + 1
  | .map entries => uptoBulkEntries entries + 1
  | .held _ => 1
def uptoBulkAll {H : Type} : List (DataW H) → Nat
  | [] => 0
  | d :: r => uptoBulk d + uptoBulkAll r
def uptoBulkEntries {H : Type} : List (Lit × DataW H) → Nat
  | [] => 0
  | x :: r => uptoBulkEntry x + uptoBulkEntries r
def uptoBulkEntry {H : Type} : Lit × DataW H → Nat
  | (.string bytes, d) => bytes.length + uptoBulk d + 1
  | (_, d) => uptoBulk d + 1
 end
def uptoSmall : (H : Type) → List (DataW H) → Bool := fun _ ds => decide (uptoBulkAll ds ≤ 1048576)
def OpenSpec.upto (s : _root_.Go.ChangeSpec) : _root_.Go.OpenSpec := { _root_.Go.OpenSpec.ofChange s with cond := some uptoSmall }

/-- 'blinktreelaw21.ModelAgrees', WHERE WHAT IT READS IS OF BULK AT MOST 1048576: true; the input reads as it did. -/
def modelAgreesUptoRow : OpenClaim := { program := "ytodenkamlbihnaa", sum := "3a4ccf93c652ddaae1844e19388e49cd4ec0076bfc223b7d741fca12d1a10b55", func := "blinktree/blinktreelaw21.ModelAgrees", spec := "modelAgrees", unfollowed := true, recurses := true, plainKeys := false, apart := false, narrowed := true }
def ModelAgreesUptoSaid : Prop := modelAgreesUptoRow.holds Try.pinned (OpenSpec.upto modelAgreesSpec)

/-- 'blinktreelaw21.ModelSnapshots', WHERE WHAT IT READS IS OF BULK AT MOST 1048576: true; the input reads as it did. -/
def modelSnapshotsUptoRow : OpenClaim := { program := "ytodenkamlbihnaa", sum := "3a4ccf93c652ddaae1844e19388e49cd4ec0076bfc223b7d741fca12d1a10b55", func := "blinktree/blinktreelaw21.ModelSnapshots", spec := "modelSnapshots", unfollowed := true, recurses := true, plainKeys := false, apart := false, narrowed := true }
def ModelSnapshotsUptoSaid : Prop := modelSnapshotsUptoRow.holds Try.pinned (OpenSpec.upto modelSnapshotsSpec)

/-- 'blinktreelaw21.ModelFloor', WHERE WHAT IT READS IS OF BULK AT MOST 1048576: true; the input reads as it did. -/
def modelFloorUptoRow : OpenClaim := { program := "ytodenkamlbihnaa", sum := "3a4ccf93c652ddaae1844e19388e49cd4ec0076bfc223b7d741fca12d1a10b55", func := "blinktree/blinktreelaw21.ModelFloor", spec := "modelFloor", unfollowed := true, recurses := true, plainKeys := false, apart := false, narrowed := true }
def ModelFloorUptoSaid : Prop := modelFloorUptoRow.holds Try.pinned (OpenSpec.upto modelFloorSpec)

/-- 'blinktreelaw21.ModelIsPersistent', WHERE WHAT IT READS IS OF BULK AT MOST 1048576: true; the input reads as it did. -/
def modelIsPersistentUptoRow : OpenClaim := { program := "ytodenkamlbihnaa", sum := "3a4ccf93c652ddaae1844e19388e49cd4ec0076bfc223b7d741fca12d1a10b55", func := "blinktree/blinktreelaw21.ModelIsPersistent", spec := "modelIsPersistent", unfollowed := true, recurses := true, plainKeys := false, apart := false, narrowed := true }
def ModelIsPersistentUptoSaid : Prop := modelIsPersistentUptoRow.holds Try.pinned (OpenSpec.upto modelIsPersistentSpec)

/-- 'blinktreelaw21.ModelGets', WHERE WHAT IT READS IS OF BULK AT MOST 1048576: true; the input reads as it did. -/
def modelGetsUptoRow : OpenClaim := { program := "ytodenkamlbihnaa", sum := "3a4ccf93c652ddaae1844e19388e49cd4ec0076bfc223b7d741fca12d1a10b55", func := "blinktree/blinktreelaw21.ModelGets", spec := "modelGets", unfollowed := true, recurses := true, plainKeys := false, apart := false, narrowed := true }
def ModelGetsUptoSaid : Prop := modelGetsUptoRow.holds Try.pinned (OpenSpec.upto modelGetsSpec)

end Rows
end Go.Proofs.Ytodenkamlbihnaa
