/-
  The walk of a statement of layer 7, its arguments in the frame's order. Condition: as there.
-/
import Derived.Test.YtegbdpelnmaijaaPagLawNeighbors
import Derived.Test.YtegbdpelnmaijaaPagOpens
namespace Go.Proofs.Ytegbdpelnmaijaa
open Go.RowKit Go.Deep Plain
set_option linter.unusedVariables false

theorem frNeighbors (w : World) (lv : Int) (A : Option Addr) (c : Nat) (hi : ByteArray) (la : Bool) (rt : Nat) (xs : List Sl) (n : Nat) (hn : xs.length = n) (h47 : n ≤ maxLen) (hR : Rs w A c xs) (hk : ∀ y ∈ xs, y.1.size ≤ maxLen) (key : ByteArray) (hkey : key.size ≤ maxLen) (at' : Int) :
    Calls Try.prog 8 #[.agg #[.int .i64 lv, .slice A n c, .string hi, .bool la, .int .u64 (rt : Int)], .string key, .int .i64 at'] w fun e w' => e = .returned (.bool true) ∧ Below w.heap.size w w' := lawNeighbors lv A c hi la rt xs key at' w n hn h47 hR
end Go.Proofs.Ytegbdpelnmaijaa
