/-
  The walk about finishing, for every fanout. Condition: the form's own reach.
-/
import Derived.Test.YtlehpcbhfdnkdaaNodOpens
import Derived.Test.YtlehpcbhfdnkdaaNodLawFin
namespace Go.Proofs.Ytlehpcbhfdnkdaa
open Go.RowKit Go.Deep Plain
theorem frFinish (w : World) (f : Int) (plv : Int) (A : Option Addr) (c : Nat) (hi : ByteArray) (la : Bool) (rt : Nat) (xs : List Sl) (n : Nat) (hn : xs.length = n) (hR : Rs w A c xs) (hrt : rt < 18446744073709551616) (hxr : ∀ x ∈ xs, x.2 < 18446744073709551616) (wd : Nat) (hwd : wd < 18446744073709551616) (st : Nat) (hst0 : st < 256) :
    Calls Try.prog 5 #[.int .i64 f, .agg #[.int .i64 plv, .slice A n c, .string hi, .bool la, .int .u64 (rt : Int)], .int .u64 (wd : Int), .int .u8 (st : Int)] w fun e w' => e = .returned (.bool true) ∧ Below w.heap.size w w' := by
  obtain ⟨F, h4, h6, hf⟩ := fan f
  exact lawFinish f F h4 h6 hf plv A c hi la rt hrt xs hxr wd hwd st hst0 w n hn hR
end Go.Proofs.Ytlehpcbhfdnkdaa
