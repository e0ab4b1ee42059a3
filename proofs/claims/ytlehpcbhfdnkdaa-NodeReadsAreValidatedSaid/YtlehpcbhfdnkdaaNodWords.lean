/-
  The words of a latch as numbers: what package latch's functions of words answer. Condition: words below 2^64.
-/
import Derived.Test.YtlehpcbhfdnkdaaRows
import Derived.Test.YtlehpcbhfdnkdaaNodMem
import Derived.Lib.Strings
namespace Go.Proofs.Ytlehpcbhfdnkdaa
open Go.RowKit Go.Deep
set_option linter.unusedVariables false

set_option linter.unusedVariables false

def lockW (x : Nat) : Nat := x / 2 * 2 + 1

def unlockW (x : Nat) : Nat := x / 2 * 2

def beginW (x : Nat) : Nat := x / 4 * 4 + 2 + x % 2

def endW (x : Nat) : Nat := (x / 4 * 4 + x % 2 + 4) % 18446744073709551616

theorem lockW_lt {x : Nat} (h : x < 18446744073709551616) : lockW x < 18446744073709551616 := by unfold lockW; omega

theorem beginW_lt {x : Nat} (h : x < 18446744073709551616) : beginW x < 18446744073709551616 := by unfold beginW; omega

theorem endW_lt (x : Nat) : endW x < 18446744073709551616 := by unfold endW; omega

theorem half_bit (i x d : Nat) (c : Nat) (hc : c < 2) : (2 * (x / 2 ^ (i + 1)) + c).testBit (d + 1) = x.testBit (i + 1 + d) := by
  rw [Nat.testBit_add_one]
  have : (2 * (x / 2 ^ (i + 1)) + c) / 2 = x / 2 ^ (i + 1) := by omega
  rw [this, Nat.testBit_div_two_pow, Nat.add_comm d]

theorem part_eq (i x c : Nat) : x / 2 ^ (i + 1) * 2 ^ (i + 1) + c * 2 ^ i + x % 2 ^ i = 2 ^ i * (2 * (x / 2 ^ (i + 1)) + c) + x % 2 ^ i := by
  generalize x / 2 ^ (i + 1) = q
  rw [Nat.pow_succ, Nat.mul_add, Nat.mul_comm c, ← Nat.mul_assoc, Nat.mul_comm (q * 2 ^ i) 2, Nat.mul_comm q, Nat.mul_left_comm]

theorem nat_or_bit (i x : Nat) : x ||| 2 ^ i = x / 2 ^ (i + 1) * 2 ^ (i + 1) + 1 * 2 ^ i + x % 2 ^ i := by
  apply Nat.eq_of_testBit_eq
  intro j
  rw [part_eq, Nat.testBit_or, Nat.testBit_two_pow_mul_add _ (Nat.mod_lt _ (Nat.two_pow_pos i)), Nat.testBit_two_pow]
  by_cases hj : j < i
  · have : ¬ i = j := by omega
    simp [hj, this]
  · by_cases hji : i = j
    · subst hji; simp
    · obtain ⟨d, rfl⟩ : ∃ d, j = i + 1 + d := ⟨j - i - 1, by omega⟩
      have h2 : i + 1 + d - i = d + 1 := by omega
      rw [if_neg hj, h2, half_bit i x d 1 (by omega)]
      simp [hji]

theorem nat_not_bit (i x : Nat) (h : x < 2 ^ 64) (hi : 2 ^ i < 2 ^ 64) : x &&& (2 ^ 64 - (2 ^ i + 1)) = x / 2 ^ (i + 1) * 2 ^ (i + 1) + 0 * 2 ^ i + x % 2 ^ i := by
  apply Nat.eq_of_testBit_eq
  intro j
  rw [part_eq, Nat.testBit_and, Nat.testBit_two_pow_sub_succ hi, Nat.testBit_two_pow_mul_add _ (Nat.mod_lt _ (Nat.two_pow_pos i)), Nat.testBit_two_pow]
  by_cases h64 : j < 64
  · by_cases hj : j < i
    · have : ¬ i = j := by omega
      simp [hj, this, h64]
    · by_cases hji : i = j
      · subst hji; simp
      · obtain ⟨d, rfl⟩ : ∃ d, j = i + 1 + d := ⟨j - i - 1, by omega⟩
        have h2 : i + 1 + d - i = d + 1 := by omega
        rw [if_neg hj, h2, half_bit i x d 0 (by omega)]
        simp [hji, h64]
  · have hx : x.testBit j = false := Nat.testBit_lt_two_pow (Nat.lt_of_lt_of_le h (Nat.pow_le_pow_right (by decide) (by omega)))
    have hi64 : i < 64 := (Nat.pow_lt_pow_iff_right (by decide)).1 hi
    have hj : ¬ j < i := by omega
    obtain ⟨d, rfl⟩ : ∃ d, j = i + 1 + d := ⟨j - i - 1, by omega⟩
    have h2 : i + 1 + d - i = d + 1 := by omega
    rw [if_neg hj, h2, half_bit i x d 0 (by omega)]
    simp [hx]

theorem or1 (x : Nat) (h : x < 18446744073709551616) : bits .or .u64 (x : Int) 1 = ((lockW x : Nat) : Int) := by
  have e := nat_or_bit 0 x
  rw [show (1 : Int) = ((1 : Nat) : Int) from rfl, u64_or_nat x 1 h (by decide)]
  congr 1
  rw [show (1 : Nat) = 2 ^ 0 from rfl, e]; simp [lockW, Nat.mod_one]

theorem or2 (x : Nat) (h : x < 18446744073709551616) : bits .or .u64 (x : Int) 2 = ((beginW x : Nat) : Int) := by
  have e := nat_or_bit 1 x
  rw [show (2 : Int) = ((2 : Nat) : Int) from rfl, u64_or_nat x 2 h (by decide)]
  congr 1

theorem not1 (x : Nat) (h : x < 18446744073709551616) : bits .andNot .u64 (x : Int) 1 = ((unlockW x : Nat) : Int) := by
  have e := nat_not_bit 0 x h (by decide)
  rw [show (1 : Int) = ((1 : Nat) : Int) from rfl, u64_andNot_nat x 1 h (by decide)]
  congr 1
  refine e.trans ?_
  simp [unlockW, Nat.mod_one]

theorem not2 (x : Nat) (h : x < 18446744073709551616) : bits .andNot .u64 (x : Int) 2 = ((x / 4 * 4 + x % 2 : Nat) : Int) := by
  have e := nat_not_bit 1 x h (by decide)
  rw [show (2 : Int) = ((2 : Nat) : Int) from rfl, u64_andNot_nat x 2 h (by decide)]
  exact congrArg _ (e.trans (by simp))

theorem and1 (x : Nat) (h : x < 18446744073709551616) : bits .and .u64 (x : Int) 1 = ((x % 2 : Nat) : Int) := by
  rw [show (1 : Int) = ((1 : Nat) : Int) from rfl, u64_and_nat x 1 h (by decide), nat_mask1]

theorem and2 (x : Nat) (h : x < 18446744073709551616) : bits .and .u64 (x : Int) 2 = ((x / 2 % 2 * 2 : Nat) : Int) := by
  rw [show (2 : Int) = ((2 : Nat) : Int) from rfl, u64_and_nat x 2 h (by decide)]
  exact congrArg _ (nat_bit 1 x)

theorem ret_word {a b : Int} (h : a = b) : Ending.returned (.int .u64 a) = .returned (.int .u64 b) := by rw [h]

theorem ret_bool {a b : Bool} (h : a = b) : Ending.returned (.bool a) = .returned (.bool b) := by rw [h]

theorem test_word (a b : Nat) : (((a : Nat) : Int) == ((b : Nat) : Int)) = (a == b) := by
  rw [Bool.eq_iff_iff]; simp; omega

set_option maxHeartbeats 400000 in
theorem changing_any (x : Nat) (h : x < 18446744073709551616) (w : World) :
    Calls Try.prog 36 #[.int .u64 (x : Int)] w fun e w' => e = .returned (.bool (x / 2 % 2 == 1)) ∧ w = w' := by
  have hb := and2 x h
  go_enter Try.func36, Try.ntmps36
  go_wp2
  go_ret
  exact ⟨ret_bool (by rw [Bool.eq_iff_iff]; simp; omega), rfl⟩

set_option maxHeartbeats 400000 in
theorem lock_any (x : Nat) (h : x < 18446744073709551616) (w : World) :
    Calls Try.prog 18 #[.int .u64 (x : Int)] w fun e w' => e = .returned (.int .u64 ((lockW x : Nat) : Int)) ∧ w = w' := by
  have hb := or1 x h
  go_enter Try.func18, Try.ntmps18
  go_wp2
  go_ret
  exact ⟨rfl, rfl⟩

set_option maxHeartbeats 400000 in
theorem begin_any (x : Nat) (h : x < 18446744073709551616) (w : World) :
    Calls Try.prog 24 #[.int .u64 (x : Int)] w fun e w' => e = .returned (.int .u64 ((beginW x : Nat) : Int)) ∧ w = w' := by
  have hb := or2 x h
  go_enter Try.func24, Try.ntmps24
  go_wp2
  go_ret
  exact ⟨rfl, rfl⟩

set_option maxHeartbeats 400000 in
theorem end_any (x : Nat) (h : x < 18446744073709551616) (w : World) :
    Calls Try.prog 23 #[.int .u64 (x : Int)] w fun e w' => e = .returned (.int .u64 ((endW x : Nat) : Int)) ∧ w = w' := by
  have hb := not2 x h
  go_enter Try.func23, Try.ntmps23
  go_wp2
  go_ret
  exact ⟨ret_word (by unfold endW; rw [IntKind.wrap_u64]; omega), rfl⟩

theorem changing_of (x : Nat) (b : Bool) (h : x < 18446744073709551616) (hb : (x / 2 % 2 == 1) = b) (w : World) :
    Calls Try.prog 36 #[.int .u64 (x : Int)] w fun e w' => e = .returned (.bool b) ∧ w = w' := by subst hb; exact changing_any x h w

theorem lock_of (x y : Nat) (h : x < 18446744073709551616) (hy : lockW x = y) (w : World) :
    Calls Try.prog 18 #[.int .u64 (x : Int)] w fun e w' => e = .returned (.int .u64 ((y : Nat) : Int)) ∧ w = w' := by subst hy; exact lock_any x h w

theorem lock_at (x : Int) (X y : Nat) (hX : x = (X : Int)) (h : X < 18446744073709551616) (hy : lockW X = y) (w : World) :
    Calls Try.prog 18 #[.int .u64 x] w fun e w' => e = .returned (.int .u64 ((y : Nat) : Int)) ∧ w = w' := by subst hX hy; exact lock_any X h w

theorem begin_of (x y : Nat) (h : x < 18446744073709551616) (hy : beginW x = y) (w : World) :
    Calls Try.prog 24 #[.int .u64 (x : Int)] w fun e w' => e = .returned (.int .u64 ((y : Nat) : Int)) ∧ w = w' := by subst hy; exact begin_any x h w

theorem begin_at (x : Int) (X y : Nat) (hX : x = (X : Int)) (h : X < 18446744073709551616) (hy : beginW X = y) (w : World) :
    Calls Try.prog 24 #[.int .u64 x] w fun e w' => e = .returned (.int .u64 ((y : Nat) : Int)) ∧ w = w' := by subst hX hy; exact begin_any X h w

theorem end_of (x y : Nat) (h : x < 18446744073709551616) (hy : endW x = y) (w : World) :
    Calls Try.prog 23 #[.int .u64 (x : Int)] w fun e w' => e = .returned (.int .u64 ((y : Nat) : Int)) ∧ w = w' := by subst hy; exact end_any x h w

theorem end_at (x : Int) (X y : Nat) (hX : x = (X : Int)) (h : X < 18446744073709551616) (hy : endW X = y) (w : World) :
    Calls Try.prog 23 #[.int .u64 x] w fun e w' => e = .returned (.int .u64 ((y : Nat) : Int)) ∧ w = w' := by subst hX hy; exact end_any X h w

set_option maxHeartbeats 400000 in
theorem same_any (v x : Nat) (hv : v < 18446744073709551616) (h : x < 18446744073709551616) (w : World) :
    Calls Try.prog 71 #[.int .u64 (v : Int), .int .u64 (x : Int)] w fun e w' => e = .returned (.bool (v / 2 == x / 2)) ∧ w = w' := by
  go_enter Try.func71, Try.ntmps71
  go_wp2_with fail
  refine (lock_any v hv _).mono ?_; rintro e w2 ⟨rfl, rfl⟩
  go_wp2_with fail
  refine (lock_any x h _).mono ?_; rintro e w2 ⟨rfl, rfl⟩
  go_wp2
  go_ret
  exact ⟨ret_bool (by rw [Bool.eq_iff_iff]; simp [lockW]; omega), rfl⟩

theorem same_of (v x : Nat) (b : Bool) (hv : v < 18446744073709551616) (h : x < 18446744073709551616) (hb : (v / 2 == x / 2) = b) (w : World) :
    Calls Try.prog 71 #[.int .u64 (v : Int), .int .u64 (x : Int)] w fun e w' => e = .returned (.bool b) ∧ w = w' := by subst hb; exact same_any v x hv h w

end Go.Proofs.Ytlehpcbhfdnkdaa
