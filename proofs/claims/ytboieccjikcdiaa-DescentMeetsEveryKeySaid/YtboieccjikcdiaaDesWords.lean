/-
  The words of a latch as numbers: what package latch's functions of words that a reader calls answer. Condition: words below 2^64.
-/
import Derived.Test.YtboieccjikcdiaaRows
import Derived.Test.YtboieccjikcdiaaDesMem
import Derived.Lib.Strings
namespace Go.Proofs.Ytboieccjikcdiaa
open Go.RowKit Go.Deep
set_option linter.unusedVariables false

set_option linter.unusedVariables false

def lockW (x : Nat) : Nat := x / 2 * 2 + 1

theorem lockW_lt {x : Nat} (h : x < 18446744073709551616) : lockW x < 18446744073709551616 := by unfold lockW; omega

theorem half_bit (i x d : Nat) (c : Nat) (hc : c < 2) : (2 * (x / 2 ^ (i + 1)) + c).testBit (d + 1) = x.testBit (i + 1 + d) := by
  rw [Nat.testBit_add_one]
  have : (2 * (x / 2 ^ (i + 1)) + c) / 2 = x / 2 ^ (i + 1) := by omega
  rw [this, Nat.testBit_div_two_pow, Nat.add_comm d]

theorem part_eq (i x c : Nat) : x / 2 ^ (i + 1) * 2 ^ (i + 1) + c * 2 ^ i + x % 2 ^ i = 2 ^ i * (2 * (x / 2 ^ (i + 1)) + c) + x % 2 ^ i := by
  generalize x / 2 ^ (i + 1) = q
  rw [Nat.pow_succ, Nat.mul_add, Nat.mul_comm c, ← Nat.mul_assoc, Nat.mul_comm (q * 2 ^ i) 2, Nat.mul_comm q, Nat.mul_left_comm]

theorem nat_or_bit (i x : Nat) : x ||| 2 ^ i = x / 2 ^ (i + 1) * 2 ^ (i + 1) + 1 * 2 ^ i + x % 2 ^ i := by
  apply Nat.eq_of_testBit_eq
  intro j
  rw [part_eq, Nat.testBit_or, Nat.testBit_two_pow_mul_add _ (Nat.mod_lt _ (Nat.two_pow_pos i)), Nat.testBit_two_pow]
  by_cases hj : j < i
  · have : ¬ i = j := by omega
    simp [hj, this]
  · by_cases hji : i = j
    · subst hji; simp
    · obtain ⟨d, rfl⟩ : ∃ d, j = i + 1 + d := ⟨j - i - 1, by omega⟩
      have h2 : i + 1 + d - i = d + 1 := by omega
      rw [if_neg hj, h2, half_bit i x d 1 (by omega)]
      simp [hji]

theorem or1 (x : Nat) (h : x < 18446744073709551616) : bits .or .u64 (x : Int) 1 = ((lockW x : Nat) : Int) := by
  have e := nat_or_bit 0 x
  rw [show (1 : Int) = ((1 : Nat) : Int) from rfl, u64_or_nat x 1 h (by decide)]
  congr 1
  rw [show (1 : Nat) = 2 ^ 0 from rfl, e]; simp [lockW, Nat.mod_one]

theorem and2 (x : Nat) (h : x < 18446744073709551616) : bits .and .u64 (x : Int) 2 = ((x / 2 % 2 * 2 : Nat) : Int) := by
  rw [show (2 : Int) = ((2 : Nat) : Int) from rfl, u64_and_nat x 2 h (by decide)]
  exact congrArg _ (nat_bit 1 x)

theorem ret_word {a b : Int} (h : a = b) : Ending.returned (.int .u64 a) = .returned (.int .u64 b) := by rw [h]

theorem ret_bool {a b : Bool} (h : a = b) : Ending.returned (.bool a) = .returned (.bool b) := by rw [h]

theorem test_word (a b : Nat) : (((a : Nat) : Int) == ((b : Nat) : Int)) = (a == b) := by
  rw [Bool.eq_iff_iff]; simp; omega

set_option maxHeartbeats 400000 in
theorem changing_any (x : Nat) (h : x < 18446744073709551616) (w : World) :
    Calls Try.prog 84 #[.int .u64 (x : Int)] w fun e w' => e = .returned (.bool (x / 2 % 2 == 1)) ∧ w = w' := by
  have hb := and2 x h
  go_enter Try.func84, Try.ntmps84
  go_wp2
  go_ret
  exact ⟨ret_bool (by rw [Bool.eq_iff_iff]; simp; omega), rfl⟩

set_option maxHeartbeats 400000 in
theorem lock_any (x : Nat) (h : x < 18446744073709551616) (w : World) :
    Calls Try.prog 98 #[.int .u64 (x : Int)] w fun e w' => e = .returned (.int .u64 ((lockW x : Nat) : Int)) ∧ w = w' := by
  have hb := or1 x h
  go_enter Try.func98, Try.ntmps98
  go_wp2
  go_ret
  exact ⟨rfl, rfl⟩

theorem changing_of (x : Nat) (b : Bool) (h : x < 18446744073709551616) (hb : (x / 2 % 2 == 1) = b) (w : World) :
    Calls Try.prog 84 #[.int .u64 (x : Int)] w fun e w' => e = .returned (.bool b) ∧ w = w' := by subst hb; exact changing_any x h w

theorem lock_of (x y : Nat) (h : x < 18446744073709551616) (hy : lockW x = y) (w : World) :
    Calls Try.prog 98 #[.int .u64 (x : Int)] w fun e w' => e = .returned (.int .u64 ((y : Nat) : Int)) ∧ w = w' := by subst hy; exact lock_any x h w

theorem lock_at (x : Int) (X y : Nat) (hX : x = (X : Int)) (h : X < 18446744073709551616) (hy : lockW X = y) (w : World) :
    Calls Try.prog 98 #[.int .u64 x] w fun e w' => e = .returned (.int .u64 ((y : Nat) : Int)) ∧ w = w' := by subst hX hy; exact lock_any X h w

set_option maxHeartbeats 400000 in
theorem same_any (v x : Nat) (hv : v < 18446744073709551616) (h : x < 18446744073709551616) (w : World) :
    Calls Try.prog 88 #[.int .u64 (v : Int), .int .u64 (x : Int)] w fun e w' => e = .returned (.bool (v / 2 == x / 2)) ∧ w = w' := by
  go_enter Try.func88, Try.ntmps88
  go_wp2_with fail
  refine (lock_any v hv _).mono ?_; rintro e w2 ⟨rfl, rfl⟩
  go_wp2_with fail
  refine (lock_any x h _).mono ?_; rintro e w2 ⟨rfl, rfl⟩
  go_wp2
  go_ret
  exact ⟨ret_bool (by rw [Bool.eq_iff_iff]; simp [lockW]; omega), rfl⟩

theorem same_of (v x : Nat) (b : Bool) (hv : v < 18446744073709551616) (h : x < 18446744073709551616) (hb : (v / 2 == x / 2) = b) (w : World) :
    Calls Try.prog 88 #[.int .u64 (v : Int), .int .u64 (x : Int)] w fun e w' => e = .returned (.bool b) ∧ w = w' := by subst hb; exact same_any v x hv h w

end Go.Proofs.Ytboieccjikcdiaa
