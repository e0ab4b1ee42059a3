/-
  The walk about the round trip, for every fanout. Condition: the form's own reach.
-/
import Derived.Test.YtlehpcbhfdnkdaaNodOpens
import Derived.Test.YtlehpcbhfdnkdaaNodLawTrip
namespace Go.Proofs.Ytlehpcbhfdnkdaa
open Go.RowKit Go.Deep Plain
theorem frTrip (w : World) (f : Int) (idn : Nat) (hidn : idn < 18446744073709551616) (plv : Int) (A : Option Addr) (c : Nat) (hi : ByteArray) (la : Bool) (rt : Nat) (xs : List Sl) (n : Nat) (hn : xs.length = n) (hR : Rs w A c xs) (hrt : rt < 18446744073709551616) (hxr : ∀ x ∈ xs, x.2 < 18446744073709551616) (plv2 : Int) (A2 : Option Addr) (c2 : Nat) (hi2 : ByteArray) (la2 : Bool) (rt2 : Nat) (xs2 : List Sl) (n2 : Nat) (hn2 : xs2.length = n2) (hR2 : Rs w A2 c2 xs2) (hrt2 : rt2 < 18446744073709551616) (hxr2 : ∀ x ∈ xs2, x.2 < 18446744073709551616) (level : Int) :
    Calls Try.prog 3 #[.int .i64 f, .int .u64 (idn : Int), .agg #[.int .i64 plv, .slice A n c, .string hi, .bool la, .int .u64 (rt : Int)], .agg #[.int .i64 plv2, .slice A2 n2 c2, .string hi2, .bool la2, .int .u64 (rt2 : Int)], .int .i64 level] w fun e w' => e = .returned (.bool true) ∧ Below w.heap.size w w' := by
  obtain ⟨F, h4, h6, hf⟩ := fan f
  exact lawTrip f F h4 h6 hf idn hidn plv A c hi la rt hrt xs hxr plv2 A2 c2 hi2 la2 rt2 hrt2 xs2 hxr2 level w n n2 hn hn2 hR hR2
end Go.Proofs.Ytlehpcbhfdnkdaa
