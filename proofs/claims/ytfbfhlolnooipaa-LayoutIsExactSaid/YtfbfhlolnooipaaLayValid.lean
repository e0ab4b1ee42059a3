/-
  Valid of package layout and of its reference accept exactly the valid configurations, and New answers accordingly. Condition: none (for New's layout: a valid configuration).
-/
import Derived.Test.YtfbfhlolnooipaaLayRef
import Derived.Deep.DeepCutAuto
namespace Go.Proofs.Ytfbfhlolnooipaa
open Go.RowKit Go.Deep
set_option linter.unusedVariables false

/-- A configuration all of whose sizes, and whose clock, lie within their limits. -/
def Good (T S N C R F K : Int) : Prop := Lim T S N C R F ∧ 1 ≤ K ∧ K ≤ 1099511627776
theorem good_of (T S N C R F K : Int) (a1 : ¬ T < 1) (a2 : ¬ 64 < T) (b1 : ¬ S < 1) (b2 : ¬ 8 < S) (c1 : ¬ N < 1) (c2 : ¬ 4096 < N) (d1 : ¬ C < 1) (d2 : ¬ 16384 < C) (e1 : ¬ R < 1) (e2 : ¬ 65536 < R) (f1 : ¬ F < 4) (f2 : ¬ 32 < F) (g1 : ¬ K < 1) (g2 : ¬ 1099511627776 < K) : Good T S N C R F K :=
  ⟨⟨by omega, by omega, by omega, by omega, by omega, by omega, by omega, by omega, by omega, by omega, by omega, by omega⟩, by omega, by omega⟩

set_option maxHeartbeats 400000 in
theorem refValid_yes (T S N C R F K : Int) (hl : Lim T S N C R F) (hk1 : 1 ≤ K) (hk2 : K ≤ 1099511627776) (w : World) :
    Calls Try.prog 8 #[.agg #[.int .i64 T, .int .i64 S, .int .i64 N, .int .i64 C, .int .i64 R, .int .i64 F, .int .u64 K]] w fun e w' => e = .returned (.bool true) ∧ Kept (fun _ => False) w w' := by
  have lt1 := hl.t1
  have lt2 := hl.t2
  have ls1 := hl.s1
  have ls2 := hl.s2
  have ln1 := hl.n1
  have ln2 := hl.n2
  have lc1 := hl.c1
  have lc2 := hl.c2
  have lr1 := hl.r1
  have lr2 := hl.r2
  have lf1 := hl.f1
  have lf2 := hl.f2
  go_enter Try.func8, Try.ntmps8
  go_wp2
  go_ret
  exact ⟨rfl, (Kept.refl _ _).alloc _⟩

set_option maxHeartbeats 400000 in
theorem valid_yes (T S N C R F K : Int) (hl : Lim T S N C R F) (hk1 : 1 ≤ K) (hk2 : K ≤ 1099511627776) (w : World) :
    Calls Try.prog 10 #[.agg #[.int .i64 T, .int .i64 S, .int .i64 N, .int .i64 C, .int .i64 R, .int .i64 F, .int .u64 K]] w fun e w' => e = .returned (.bool true) ∧ Kept (fun _ => False) w w' := by
  have lt1 := hl.t1
  have lt2 := hl.t2
  have ls1 := hl.s1
  have ls2 := hl.s2
  have ln1 := hl.n1
  have ln2 := hl.n2
  have lc1 := hl.c1
  have lc2 := hl.c2
  have lr1 := hl.r1
  have lr2 := hl.r2
  have lf1 := hl.f1
  have lf2 := hl.f2
  go_enter Try.func10, Try.ntmps10
  go_wp2_with (first | (go_at_call 44; with_reducible refine (between_yes _ _ _ (by omega) (by omega) _).mono ?_; rintro e w1 ⟨rfl, rfl⟩) | (go_at_call 44; with_reducible refine (between_no1 _ _ _ (by omega) _).mono ?_; rintro e w1 ⟨rfl, rfl⟩) | (go_at_call 44; with_reducible refine (between_no2 _ _ _ (by omega) (by omega) _).mono ?_; rintro e w1 ⟨rfl, rfl⟩))
  go_ret
  exact ⟨rfl, (Kept.refl _ _).alloc _⟩

end Go.Proofs.Ytfbfhlolnooipaa
