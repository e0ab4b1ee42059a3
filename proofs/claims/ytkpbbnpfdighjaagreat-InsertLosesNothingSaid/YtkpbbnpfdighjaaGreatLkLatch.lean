/-
  The machines Acquire and Release of package latch a step at a time. Condition: fewer than 2^63 accesses.
-/
import Derived.Test.YtkpbbnpfdighjaaGreatLkMem
import Derived.StillTailTactics
import Derived.Deep.RegionHeld3
namespace Go.Proofs.YtkpbbnpfdighjaaGreat
section
open Go.RowKit Go.Deep
set_option linter.unusedVariables false

/-- The cells of an Acquire machine. -/
def acqv (i : Int) (N : Nat) (K : ByteArray) (M : Int) (fr lk : Bool) : List Value := [.int .i64 i, .int .u64 (N : Int), .string K, .int .u64 M, .bool fr, .bool lk]
/-- The cells of a Release machine. -/
def relv (i : Int) (N : Nat) (dn : Bool) : List Value := [.int .i64 i, .int .u64 (N : Int), .bool dn]
abbrev AcqB (w : World) (q : Nat) (i : Int) (N : Nat) (K : ByteArray) (M : Int) (fr lk : Bool) : Prop := Blk w q 142 (acqv i N K M fr lk)
abbrev RelB (w : World) (q : Nat) (i : Int) (N : Nat) (dn : Bool) : Prop := Blk w q 112 (relv i N dn)
theorem Mem.setFar {w : World} {b g : Nat} {l : List Cel} {k r : Nat} (h : Mem w b g l k) (hb : r ≠ b) (hg : r ≠ g) (i : Nat) (u : Value) : Mem (w.setCell ⟨r, i, none⟩ u) b g l k :=
  ⟨h.obj.other (fun e => hb e.symm) _, h.row.other (fun e => hg e.symm) _, h.ne⟩
/-- The blocks of a machine and of a memory. -/
def Own3 (q b g : Nat) : Nat → Prop := fun k => k = q ∨ k = b ∨ k = g

end
end Go.Proofs.YtkpbbnpfdighjaaGreat
