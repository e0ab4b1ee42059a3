/-
  Valid of package layout and of its reference refuse every configuration that is not valid. Condition: none.
-/
import Derived.Test.YtfbfhlolnooipaaLayValid
namespace Go.Proofs.Ytfbfhlolnooipaa
open Go.RowKit Go.Deep
set_option linter.unusedVariables false

theorem ret_bool {a b : Bool} (h : a = b) : Ending.returned (.bool a) = .returned (.bool b) := by rw [h]
set_option maxHeartbeats 4000000 in
theorem refValid_no (T S N C R F K : Int) (hng : ¬ Good T S N C R F K) (h0 : 0 ≤ K) (w : World) :
    Calls Try.prog 8 #[.agg #[.int .i64 T, .int .i64 S, .int .i64 N, .int .i64 C, .int .i64 R, .int .i64 F, .int .u64 K]] w fun e w' => e = .returned (.bool false) ∧ Kept (fun _ => False) w w' := by
  by_cases g1 : T < 1
  rotate_left
  by_cases g2 : 64 < T
  rotate_left
  by_cases g3 : S < 1
  rotate_left
  by_cases g4 : 8 < S
  rotate_left
  by_cases g5 : N < 1
  rotate_left
  by_cases g6 : 4096 < N
  rotate_left
  by_cases g7 : C < 1
  rotate_left
  by_cases g8 : 16384 < C
  rotate_left
  by_cases g9 : R < 1
  rotate_left
  by_cases g10 : 65536 < R
  rotate_left
  by_cases g11 : F < 4
  rotate_left
  by_cases g12 : 32 < F
  rotate_left
  by_cases g13 : K < 1
  rotate_left
  by_cases g14 : 1099511627776 < K
  rotate_left
  exact absurd (good_of T S N C R F K g1 g2 g3 g4 g5 g6 g7 g8 g9 g10 g11 g12 g13 g14) hng
  all_goals
    clear hng
    go_enter Try.func8, Try.ntmps8
    go_wp2
    go_ret
    exact ⟨by first | rfl | exact ret_bool (by simp; omega), (Kept.refl _ _).alloc _⟩

set_option maxHeartbeats 4000000 in
theorem valid_no (T S N C R F K : Int) (hng : ¬ Good T S N C R F K) (h0 : 0 ≤ K) (w : World) :
    Calls Try.prog 10 #[.agg #[.int .i64 T, .int .i64 S, .int .i64 N, .int .i64 C, .int .i64 R, .int .i64 F, .int .u64 K]] w fun e w' => e = .returned (.bool false) ∧ Kept (fun _ => False) w w' := by
  by_cases g1 : T < 1
  rotate_left
  by_cases g2 : 64 < T
  rotate_left
  by_cases g3 : S < 1
  rotate_left
  by_cases g4 : 8 < S
  rotate_left
  by_cases g5 : N < 1
  rotate_left
  by_cases g6 : 4096 < N
  rotate_left
  by_cases g7 : C < 1
  rotate_left
  by_cases g8 : 16384 < C
  rotate_left
  by_cases g9 : R < 1
  rotate_left
  by_cases g10 : 65536 < R
  rotate_left
  by_cases g11 : F < 4
  rotate_left
  by_cases g12 : 32 < F
  rotate_left
  by_cases g13 : K < 1
  rotate_left
  by_cases g14 : 1099511627776 < K
  rotate_left
  exact absurd (good_of T S N C R F K g1 g2 g3 g4 g5 g6 g7 g8 g9 g10 g11 g12 g13 g14) hng
  all_goals
    clear hng
    go_enter Try.func10, Try.ntmps10
    go_wp2_with (first | (go_at_call 44; with_reducible refine (between_yes _ _ _ (by omega) (by omega) _).mono ?_; rintro e w1 ⟨rfl, rfl⟩) | (go_at_call 44; with_reducible refine (between_no1 _ _ _ (by omega) _).mono ?_; rintro e w1 ⟨rfl, rfl⟩) | (go_at_call 44; with_reducible refine (between_no2 _ _ _ (by omega) (by omega) _).mono ?_; rintro e w1 ⟨rfl, rfl⟩))
    go_ret
    exact ⟨by first | rfl | exact ret_bool (by simp; omega), (Kept.refl _ _).alloc _⟩

end Go.Proofs.Ytfbfhlolnooipaa
