/-
  The walk about stages, for every fanout. Condition: the form's own reach.
-/
import Derived.Test.YtlehpcbhfdnkdaaNodOpens
import Derived.Test.YtlehpcbhfdnkdaaNodLawSta
namespace Go.Proofs.Ytlehpcbhfdnkdaa
open Go.RowKit Go.Deep Plain
theorem frStages (w : World) (f : Int) (plv : Int) (A : Option Addr) (c : Nat) (hi : ByteArray) (la : Bool) (rt : Nat) (xs : List Sl) (n : Nat) (hn : xs.length = n) (hR : Rs w A c xs) (hrt : rt < 18446744073709551616) (hxr : ∀ x ∈ xs, x.2 < 18446744073709551616) (plv2 : Int) (A2 : Option Addr) (c2 : Nat) (hi2 : ByteArray) (la2 : Bool) (rt2 : Nat) (xs2 : List Sl) (n2 : Nat) (hn2 : xs2.length = n2) (hR2 : Rs w A2 c2 xs2) (hrt2 : rt2 < 18446744073709551616) (hxr2 : ∀ x ∈ xs2, x.2 < 18446744073709551616) (wd : Nat) (hwd : wd < 18446744073709551616) :
    Calls Try.prog 6 #[.int .i64 f, .agg #[.int .i64 plv, .slice A n c, .string hi, .bool la, .int .u64 (rt : Int)], .agg #[.int .i64 plv2, .slice A2 n2 c2, .string hi2, .bool la2, .int .u64 (rt2 : Int)], .int .u64 (wd : Int)] w fun e w' => e = .returned (.bool true) ∧ Below w.heap.size w w' := by
  obtain ⟨F, h4, h6, hf⟩ := fan f
  exact lawStages f F h4 h6 hf plv A c hi la rt hrt xs hxr plv2 A2 c2 hi2 la2 rt2 hrt2 xs2 hxr2 wd hwd w n n2 hn hn2 hR hR2
end Go.Proofs.Ytlehpcbhfdnkdaa
