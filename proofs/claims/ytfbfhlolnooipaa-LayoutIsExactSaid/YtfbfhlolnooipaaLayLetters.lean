/-
  Small configurations as letters; each address's contract with its answer as a letter; in which order the addresses lie. Condition: sizes within their limits.
-/
import Derived.Test.YtfbfhlolnooipaaLayStarts
import Derived.Deep.DeepMust
namespace Go.Proofs.Ytfbfhlolnooipaa
open Go.RowKit Go.Deep
set_option linter.unusedVariables false

/-- The limits of the small configurations. -/
structure Tiny (T S N C R F K : Int) : Prop where
  t1 : 1 ≤ T
  t2 : T ≤ 6
  s1 : 1 ≤ S
  s2 : S ≤ 8
  n1 : 1 ≤ N
  n2 : N ≤ 12
  c1 : 1 ≤ C
  c2 : C ≤ 20
  r1 : 1 ≤ R
  r2 : R ≤ 20
  f1 : 4 ≤ F
  f2 : F ≤ 9
  k1 : 1 ≤ K
  k2 : K ≤ 1000
theorem Tiny.lim {T S N C R F K : Int} (h : Tiny T S N C R F K) : Lim T S N C R F := by
  obtain ⟨_, _, _, _, _, _, _, _, _, _, _, _, _, _⟩ := h; constructor <;> omega
def SmallOk (w : World) (e : Ending) (w' : World) : Prop := ∃ T S N C R F K : Int, e = .returned (.agg #[.int .i64 T, .int .i64 S, .int .i64 N, .int .i64 C, .int .i64 R, .int .i64 F, .int .u64 K]) ∧ Tiny T S N C R F K ∧ Kept (fun _ => False) w w'
theorem small_of (T0 S0 N0 C0 R0 F0 K0 : Int) (h0 : 0 ≤ K0) (w : World) : Calls Try.prog 14 #[.agg #[.int .i64 T0, .int .i64 S0, .int .i64 N0, .int .i64 C0, .int .i64 R0, .int .i64 F0, .int .u64 K0]] w (SmallOk w) :=
  (small_any T0 S0 N0 C0 R0 F0 K0 h0 w).mono fun _ _ ⟨he, hk⟩ => ⟨_, _, _, _, _, _, _, he, ⟨by omega, by omega, by omega, by omega, by omega, by omega, by omega, by omega, by omega, by omega, by omega, by omega, by omega, by omega⟩, hk⟩
theorem mod_to (k n r : Int) (w : World) (hn : 0 < n) (hn2 : n ≤ 9223372036854775807) (h : k % n = r) :
    Calls Try.prog 39 #[.int .i64 k, .int .i64 n] w fun e w' => e = .returned (.int .i64 r) ∧ w = w' := by
  have := mod_any k n w hn hn2; rwa [h] at this
theorem latch_of (T S N C R F K a b d n v : Int) (hl : Lim T S N C R F) (hd : Reach3 a b d) (hv : nodeAt N F a n 0 = v) (w : World) :
    Calls Try.prog 27 #[.agg #[.int .i64 T, .int .i64 S, .int .i64 N, .int .i64 C, .int .i64 R, .int .i64 F, .int .u64 K, .int .i64 a, .int .i64 b, .int .i64 d], .int .u64 n] w fun e w' => e = .returned (.int .i64 v) ∧ Kept (fun _ => False) w w' := by
  have := latch_any T S N C R F K a b d n hl hd w; rwa [hv] at this
theorem head_of (T S N C R F K a b d n v : Int) (hl : Lim T S N C R F) (hd : Reach3 a b d) (hv : nodeAt N F a n 1 = v) (w : World) :
    Calls Try.prog 29 #[.agg #[.int .i64 T, .int .i64 S, .int .i64 N, .int .i64 C, .int .i64 R, .int .i64 F, .int .u64 K, .int .i64 a, .int .i64 b, .int .i64 d], .int .u64 n] w fun e w' => e = .returned (.int .i64 v) ∧ Kept (fun _ => False) w w' := by
  have := head_any T S N C R F K a b d n hl hd w; rwa [hv] at this
theorem high_of (T S N C R F K a b d n v : Int) (hl : Lim T S N C R F) (hd : Reach3 a b d) (hv : nodeAt N F a n 2 = v) (w : World) :
    Calls Try.prog 30 #[.agg #[.int .i64 T, .int .i64 S, .int .i64 N, .int .i64 C, .int .i64 R, .int .i64 F, .int .u64 K, .int .i64 a, .int .i64 b, .int .i64 d], .int .u64 n] w fun e w' => e = .returned (.int .i64 v) ∧ Kept (fun _ => False) w w' := by
  have := high_any T S N C R F K a b d n hl hd w; rwa [hv] at this
theorem right_of (T S N C R F K a b d n v : Int) (hl : Lim T S N C R F) (hd : Reach3 a b d) (hv : nodeAt N F a n 3 = v) (w : World) :
    Calls Try.prog 31 #[.agg #[.int .i64 T, .int .i64 S, .int .i64 N, .int .i64 C, .int .i64 R, .int .i64 F, .int .u64 K, .int .i64 a, .int .i64 b, .int .i64 d], .int .u64 n] w fun e w' => e = .returned (.int .i64 v) ∧ Kept (fun _ => False) w w' := by
  have := right_any T S N C R F K a b d n hl hd w; rwa [hv] at this
theorem stamp_of (T S N C R F K a b d n v : Int) (hl : Lim T S N C R F) (hd : Reach3 a b d) (hv : recAt R d n 0 = v) (w : World) :
    Calls Try.prog 34 #[.agg #[.int .i64 T, .int .i64 S, .int .i64 N, .int .i64 C, .int .i64 R, .int .i64 F, .int .u64 K, .int .i64 a, .int .i64 b, .int .i64 d], .int .u64 n] w fun e w' => e = .returned (.int .i64 v) ∧ Kept (fun _ => False) w w' := by
  have := stamp_any T S N C R F K a b d n hl hd w; rwa [hv] at this
theorem value_of (T S N C R F K a b d n v : Int) (hl : Lim T S N C R F) (hd : Reach3 a b d) (hv : recAt R d n 1 = v) (w : World) :
    Calls Try.prog 36 #[.agg #[.int .i64 T, .int .i64 S, .int .i64 N, .int .i64 C, .int .i64 R, .int .i64 F, .int .u64 K, .int .i64 a, .int .i64 b, .int .i64 d], .int .u64 n] w fun e w' => e = .returned (.int .i64 v) ∧ Kept (fun _ => False) w w' := by
  have := value_any T S N C R F K a b d n hl hd w; rwa [hv] at this
theorem next_of (T S N C R F K a b d n v : Int) (hl : Lim T S N C R F) (hd : Reach3 a b d) (hv : recAt R d n 2 = v) (w : World) :
    Calls Try.prog 37 #[.agg #[.int .i64 T, .int .i64 S, .int .i64 N, .int .i64 C, .int .i64 R, .int .i64 F, .int .u64 K, .int .i64 a, .int .i64 b, .int .i64 d], .int .u64 n] w fun e w' => e = .returned (.int .i64 v) ∧ Kept (fun _ => False) w w' := by
  have := next_any T S N C R F K a b d n hl hd w; rwa [hv] at this
theorem chain_of (T S N C R F K a b d n v : Int) (hl : Lim T S N C R F) (hd : Reach3 a b d) (hv : chainAt C b n = v) (w : World) :
    Calls Try.prog 32 #[.agg #[.int .i64 T, .int .i64 S, .int .i64 N, .int .i64 C, .int .i64 R, .int .i64 F, .int .u64 K, .int .i64 a, .int .i64 b, .int .i64 d], .int .u64 n] w fun e w' => e = .returned (.int .i64 v) ∧ Kept (fun _ => False) w w' := by
  have := chain_any T S N C R F K a b d n hl hd w; rwa [hv] at this
theorem slot_of (T S N C R F K a b d n i v : Int) (hl : Lim T S N C R F) (hd : Reach3 a b d) (hv : slotAt N F a n i = v) (w : World) :
    Calls Try.prog 38 #[.agg #[.int .i64 T, .int .i64 S, .int .i64 N, .int .i64 C, .int .i64 R, .int .i64 F, .int .u64 K, .int .i64 a, .int .i64 b, .int .i64 d], .int .u64 n, .int .i64 i] w fun e w' => e = .returned (.int .i64 v) ∧ Kept (fun _ => False) w w' := by
  have := slot_any T S N C R F K a b d n i hl hd w; rwa [hv] at this
theorem snap_of (T S N C R F K a b d t j v : Int) (hl : Lim T S N C R F) (hd : Reach3 a b d) (hv : snapAt T S t j = v) (w : World) :
    Calls Try.prog 25 #[.agg #[.int .i64 T, .int .i64 S, .int .i64 N, .int .i64 C, .int .i64 R, .int .i64 F, .int .u64 K, .int .i64 a, .int .i64 b, .int .i64 d], .int .i64 t, .int .i64 j] w fun e w' => e = .returned (.int .i64 v) ∧ Kept (fun _ => False) w w' := by
  have := snap_any T S N C R F K a b d t j hl w; rwa [hv] at this
theorem cellsum_of (T S N C R F K a b d v : Int) (hl : Lim T S N C R F) (hd : Reach3 a b d) (hv : d + R * 3 = v) (w : World) :
    Calls Try.prog 15 #[.agg #[.int .i64 T, .int .i64 S, .int .i64 N, .int .i64 C, .int .i64 R, .int .i64 F, .int .u64 K, .int .i64 a, .int .i64 b, .int .i64 d]] w fun e w' => e = .returned (.int .i64 v) ∧ Kept (fun _ => False) w w' := by
  have := cells_of T S N C R F K a b d hl hd w; rwa [hv] at this
theorem emod_ex (k n : Int) (hn : 1 ≤ n) : ∃ r : Int, k % n = r ∧ 0 ≤ r ∧ r < n := ⟨_, rfl, Int.emod_nonneg _ (by omega), Int.emod_lt_of_pos _ (by omega)⟩
theorem tmod_ex (k n : Int) (hk : 0 ≤ k) (hn : 1 ≤ n) : ∃ r : Int, k.tmod n = r ∧ k % n = r ∧ 0 ≤ r ∧ r < n :=
  ⟨_, Int.tmod_eq_emod_of_nonneg hk, rfl, Int.emod_nonneg _ (by omega), Int.emod_lt_of_pos _ (by omega)⟩
/-- The order of the addresses. -/
structure Rows (T S N C R F t j i n c r a b d sn la ch st : Int) : Prop where
  sn0 : 7 < sn
  sn1 : sn < la
  la0 : la ≤ 1000000
  ch0 : la + 4 + i < ch
  ch1 : ch < st
  st0 : st + 2 < d + R * 3
  st1 : d + R * 3 ≤ 2000000
  e1 : snapAt T S t j = sn
  e2 : nodeAt N F a n 0 = la
  e3 : nodeAt N F a n 1 = la + 1
  e4 : nodeAt N F a n 2 = la + 2
  e5 : nodeAt N F a n 3 = la + 3
  e6 : slotAt N F a n i = la + 4 + i
  e7 : chainAt C b c = ch
  e8 : recAt R d r 0 = st
  e9 : recAt R d r 1 = st + 1
  e10 : recAt R d r 2 = st + 2
theorem step_le (t T S : Int) (hS : 0 ≤ S) (h : t + 1 ≤ T) : t * S + S ≤ T * S := by
  have := Int.mul_le_mul_of_nonneg_right h hS
  rw [Int.add_mul, Int.one_mul] at this; exact this
theorem rows_of {T S N C R F : Int} (hl : Lim T S N C R F) {t j i n c r : Int} (t0 : 0 ≤ t) (t1 : t < T) (j0 : 0 ≤ j) (j1 : j < S) (i0 : 0 ≤ i) (i1 : i < F) (n0 : 1 ≤ n) (n1 : n ≤ N) (c0 : 1 ≤ c) (c1 : c ≤ C) (r0 : 1 ≤ r) (r1 : r ≤ R) :
    ∃ sn la ch st : Int, Rows T S N C R F t j i n c r (firstNode T S) (firstChain T S N F) (firstRecord T S N C F) sn la ch st := by
  have h1 := step_le t T S (by omega) (by omega)
  have h2 := Int.mul_nonneg t0 (by omega : 0 ≤ S)
  have h3 := step_le (n - 1) N F (by omega) (by omega)
  have h4 := Int.mul_nonneg (by omega : 0 ≤ n - 1) (by omega : 0 ≤ F)
  have hr := hl.reach
  have b1 := hr.b2
  have b2 := hr.d2
  have b3 := hr.a2
  have hr2 := hl.r2
  have hc2 := hl.c2
  refine ⟨8 + t * S + j, firstNode T S + ((n - 1) * F + (n - 1) * 4), firstChain T S N F + (c - 1), firstRecord T S N C F + (r - 1) * 3, ?_⟩
  unfold firstRecord firstChain firstNode at *
  constructor
  case e1 => unfold snapAt; rw [if_pos (by omega)]
  case e2 => unfold nodeAt; rw [if_pos (by omega)]; omega
  case e3 => unfold nodeAt; rw [if_pos (by omega)]
  case e4 => unfold nodeAt; rw [if_pos (by omega)]
  case e5 => unfold nodeAt; rw [if_pos (by omega)]
  case e6 => unfold slotAt nodeAt; rw [if_pos (by omega), if_pos (by omega)]; omega
  case e7 => unfold chainAt; rw [if_pos (by omega)]
  case e8 => unfold recAt; rw [if_pos (by omega)]; omega
  case e9 => unfold recAt; rw [if_pos (by omega)]
  case e10 => unfold recAt; rw [if_pos (by omega)]
  all_goals omega
theorem new_to (T S N C R F K a b d : Int) (hl : Lim T S N C R F) (hk1 : 1 ≤ K) (hk2 : K ≤ 1099511627776) (ha : firstNode T S = a) (hb : firstChain T S N F = b) (hd : firstRecord T S N C F = d) (w : World) :
    Calls Try.prog 9 #[.agg #[.int .i64 T, .int .i64 S, .int .i64 N, .int .i64 C, .int .i64 R, .int .i64 F, .int .u64 K]] w fun e w' => e = .returned (.tuple #[.agg #[.int .i64 T, .int .i64 S, .int .i64 N, .int .i64 C, .int .i64 R, .int .i64 F, .int .u64 K, .int .i64 a, .int .i64 b, .int .i64 d], .int .i64 0]) ∧ Kept (fun _ => False) w w' := by
  subst ha hb hd; exact new_yes T S N C R F K hl hk1 hk2 w
end Go.Proofs.Ytfbfhlolnooipaa
