/-
  The walks of two statements of layer 7, their arguments in the frame's order. Condition: as there.
-/
import Derived.Test.YtegbdpelnmaijaaPagLawSearch
import Derived.Test.YtegbdpelnmaijaaPagLawInsert
import Derived.Test.YtegbdpelnmaijaaPagOpens
namespace Go.Proofs.Ytegbdpelnmaijaa
open Go.RowKit Go.Deep Plain
set_option linter.unusedVariables false

theorem frSearches (w : World) (lv : Int) (A : Option Addr) (c : Nat) (hi : ByteArray) (la : Bool) (rt : Nat) (xs : List Sl) (n : Nat) (hn : xs.length = n) (h47 : n ≤ maxLen) (hR : Rs w A c xs) (hk : ∀ y ∈ xs, y.1.size ≤ maxLen) (key : ByteArray) (hkey : key.size ≤ maxLen) (at' : Int) (last : Bool) :
    Calls Try.prog 4 #[.agg #[.int .i64 lv, .slice A n c, .string hi, .bool la, .int .u64 (rt : Int)], .string key, .int .i64 at', .bool last] w fun e w' => e = .returned (.bool true) ∧ Below w.heap.size w w' := lawSearches lv A c hi la rt xs key at' last w n hn h47 hR
theorem frInserts (w : World) (lv : Int) (A : Option Addr) (c : Nat) (hi : ByteArray) (la : Bool) (rt : Nat) (xs : List Sl) (n : Nat) (hn : xs.length = n) (h47 : n ≤ maxLen) (hR : Rs w A c xs) (hk : ∀ y ∈ xs, y.1.size ≤ maxLen) (key : ByteArray) (hkey : key.size ≤ maxLen) (ref : Nat) (href : ref < 18446744073709551616) (at' : Int) :
    Calls Try.prog 5 #[.agg #[.int .i64 lv, .slice A n c, .string hi, .bool la, .int .u64 (rt : Int)], .string key, .int .u64 (ref : Int), .int .i64 at'] w fun e w' => e = .returned (.bool true) ∧ Below w.heap.size w w' := lawInserts lv A c hi la rt xs key ref at' w n hn h47 hR
end Go.Proofs.Ytegbdpelnmaijaa
