/-
  The sort's random numbers (by the library's contract, laid by hand) and nextPowerOfTwo. Condition: none.
-/
import Derived.Test.YtddjggckmmdicaaSrtPis
import Derived.Shelf.SlSortCmp.Xorshift
namespace Go.Proofs.Ytddjggckmmdicaa
open Go.RowKit Go.Deep
open Go.Sort
set_option linter.unusedVariables false

open Go.Shelf in
def xorRen : Go.Shelf.Ren := ⟨fun | 48 => 64 | n => n, fun | 0 => 0 | 39 => 76 | 55 => 22 | 66 => 93 | 76 => 99 | n => n, fun n => n⟩
open Go.Shelf in
theorem xorLay : SlLaysF0.n48 Try.prog xorRen := {
  mixed := by kernel_rfl
  f48 := Try.func64.trans (congrArg some (by kernel_rfl))
  t0 := Try.underlying0
  a0 := Try.isAgg0
  z0 := Try.sizeOf0
  v0 := Try.zeroValue0
  t39 := Try.underlying76
  a39 := Try.isAgg76
  z39 := Try.sizeOf76
  v39 := Try.zeroValue76
  t55 := Try.underlying22
  a55 := Try.isAgg22
  z55 := Try.sizeOf22
  v55 := Try.zeroValue22
  t66 := Try.underlying93
  a66 := Try.isAgg93
  z66 := Try.sizeOf93
  v66 := Try.zeroValue93
  t76 := Try.underlying99
  a76 := Try.isAgg99
  z76 := Try.sizeOf99
  v76 := Try.zeroValue99 }
theorem next_any (rb ro X : Nat) (hX : X < 18446744073709551616) (w : World) (hc : w.cell? ⟨rb, ro, none⟩ = some (.int .u64 (X : Int))) (hf : w.frozen? ⟨rb, ro, none⟩ = false) :
    Calls Try.prog 64 #[.pointer (some ⟨rb, ro, none⟩)] w fun e w' => e = .returned (.int .u64 ((xorNextN X : Nat) : Int)) ∧ w' = (w.setCell ⟨rb, ro, none⟩ (.int .u64 ((xorNextN X : Nat) : Int))).drewN 3 :=
  AnyF.xorshift_Next xorLay rb ro X hX w hc hf

set_option maxHeartbeats 1000000 in
theorem pow_any (n : Nat) (hn : n < 4611686018427387904) (w : World) :
    Calls Try.prog 63 #[.int .i64 (n : Int)] w fun e w' => e = .returned (.int .u64 ((1 <<< bitsLen n : Nat) : Int)) ∧ w' = w := by
  have hk : bitsLen n ≤ 62 := (bitsLen_le_iff n 62).2 (by omega)
  have hp := wrap_two_pow (bitsLen n) hk
  have wr : IntKind.u64.wrap (n : Int) = n := by simp [IntKind.wrap, IntKind.bits, IntKind.signed]; omega
  have hbl : Lib.bitLen n = bitsLen n := bitLen_eq n (by omega)
  go_enter Try.func63, Try.ntmps63
  go_wp2_with fail
  refine (len_any n (by omega) _).mono ?_; rintro e w1 ⟨rfl, rfl⟩
  rw [hbl]
  go_wp2
  go_ret
  exact ⟨rfl, rfl⟩
end Go.Proofs.Ytddjggckmmdicaa
