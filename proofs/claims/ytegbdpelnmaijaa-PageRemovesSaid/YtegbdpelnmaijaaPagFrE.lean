/-
  The walk of a statement of layer 7, its arguments in the frame's order. Condition: as there.
-/
import Derived.Test.YtegbdpelnmaijaaPagLawRemoves
import Derived.Test.YtegbdpelnmaijaaPagOpens
namespace Go.Proofs.Ytegbdpelnmaijaa
open Go.RowKit Go.Deep Plain
set_option linter.unusedVariables false

theorem frRemoves (w : World) (lv : Int) (A : Option Addr) (c : Nat) (hi : ByteArray) (la : Bool) (rt : Nat) (xs : List Sl) (n : Nat) (hn : xs.length = n) (h47 : n ≤ maxLen) (hR : Rs w A c xs) (hk : ∀ y ∈ xs, y.1.size ≤ maxLen)
    (AK : Option Addr) (ck : Nat) (ks : List ByteArray) (hz : AK = none → ck = 0) (hK : Rk w AK ks) (hks : ∀ k ∈ ks, k.size ≤ maxLen)
    (AB : Option Addr) (cb : Nat) (bs : List Nat) (hbm : bs.length ≤ maxLen) (hbr : ∀ x ∈ bs, x < 256) (hbc : 0 < bs.length → ∃ g off, AB = some ⟨g, off, none⟩ ∧ g < w.heap.size ∧ ∀ (j x : Nat), bs[j]? = some x → w.cell? ⟨g, off + j, none⟩ = some (.int .u8 (x : Int))) :
    Calls Try.prog 6 #[.agg #[.int .i64 lv, .slice A n c, .string hi, .bool la, .int .u64 (rt : Int)], .slice AK ks.length ck, .slice AB bs.length cb] w fun e w' => e = .returned (.bool true) ∧ Below w.heap.size w w' := lawRemoves lv A c hi la rt xs w n hn h47 hR hk AK ck ks hz hK hks AB cb bs hbm hbr hbc
end Go.Proofs.Ytegbdpelnmaijaa
