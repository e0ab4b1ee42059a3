/-
  The walk of a statement of layer 7, its arguments in the frame's order. Condition: as there.
-/
import Derived.Test.YtegbdpelnmaijaaPagLawCombine
import Derived.Test.YtegbdpelnmaijaaPagOpens
namespace Go.Proofs.Ytegbdpelnmaijaa
open Go.RowKit Go.Deep Plain
set_option linter.unusedVariables false

theorem frCombine (w : World) (lv : Int) (A : Option Addr) (c : Nat) (hi : ByteArray) (la : Bool) (rt : Nat) (xs : List Sl) (n : Nat) (hn : xs.length = n) (h47 : n ≤ maxLen) (hR : Rs w A c xs) (hk : ∀ y ∈ xs, y.1.size ≤ maxLen) (a : ByteArray) (ha : a.size ≤ maxLen) (b : ByteArray) (hb : b.size ≤ maxLen) (x : Nat) (hx : x < 18446744073709551616) (y : Nat) (hy : y < 18446744073709551616) :
    Calls Try.prog 7 #[.agg #[.int .i64 lv, .slice A n c, .string hi, .bool la, .int .u64 (rt : Int)], .string a, .string b, .int .u64 (x : Int), .int .u64 (y : Int)] w fun e w' => e = .returned (.bool true) ∧ Below w.heap.size w w' := lawInsertsAndRemoves lv A c hi la rt xs a b x y w n hn h47 hR hk ha hb
end Go.Proofs.Ytegbdpelnmaijaa
