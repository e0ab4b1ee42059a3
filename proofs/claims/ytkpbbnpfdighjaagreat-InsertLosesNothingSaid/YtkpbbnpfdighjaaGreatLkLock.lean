/-
  Package leaflock: a Lock's step phase by phase, with what the machine inside does as a hypothesis; NewLock and Held. Condition: the kit's small configurations.
-/
import Derived.Test.YtkpbbnpfdighjaaGreatLkFind
import Derived.Test.YtkpbbnpfdighjaaGreatLkLatch
namespace Go.Proofs.YtkpbbnpfdighjaaGreat
open Go.RowKit Go.Deep Plain
set_option linter.unusedVariables false

/-- The cells of a Lock. -/
def lkv (F : Nat) (fb fd : Int) (key : ByteArray) (ph : Int) (fp : Value) (nid : Nat) (ap op rp : Value) : List Value :=
  [.int .i64 1, .int .i64 2, .int .i64 100, .int .i64 100, .int .i64 200, .int .i64 (F : Int), .int .u64 1000, .int .i64 10, .int .i64 fb, .int .i64 fd, .string key, .int .i64 ph, fp, .int .u64 (nid : Int), ap, op, rp]
theorem nla_out {F n : Nat} (h : n = 0 ∨ 100 < n) : nla F n = -1 := by
  unfold nla nodeAt; rw [if_neg (by omega)]
end Go.Proofs.YtkpbbnpfdighjaaGreat
