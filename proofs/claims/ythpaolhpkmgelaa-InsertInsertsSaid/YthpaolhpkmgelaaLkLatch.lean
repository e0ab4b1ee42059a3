/-
  The machines Acquire and Release of package latch a step at a time. Condition: fewer than 2^63 accesses.
-/
import Derived.Test.YthpaolhpkmgelaaLkMem
import Derived.StillTailTactics
import Derived.Deep.RegionHeld3
namespace Go.Proofs.Ythpaolhpkmgelaa
section
open Go.RowKit Go.Deep
set_option linter.unusedVariables false

theorem Mem.setFar {w : World} {b g : Nat} {l : List Cel} {k r : Nat} (h : Mem w b g l k) (hb : r ≠ b) (hg : r ≠ g) (i : Nat) (u : Value) : Mem (w.setCell ⟨r, i, none⟩ u) b g l k :=
  ⟨h.obj.other (fun e => hb e.symm) _, h.row.other (fun e => hg e.symm) _, h.ne⟩
/-- The blocks of a machine and of a memory. -/
def Own3 (q b g : Nat) : Nat → Prop := fun k => k = q ∨ k = b ∨ k = g

end
end Go.Proofs.Ythpaolhpkmgelaa
