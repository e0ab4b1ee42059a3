/-
  What the functions of package layout answer, and those of its reference: contracts for every configuration and number. Condition: where a size is asked for, a size within its limits.
-/
import Derived.Test.YtfbfhlolnooipaaLayMem
import Derived.Test.YtfbfhlolnooipaaLayPlain
import Derived.Deep.RegionHeld3
namespace Go.Proofs.Ytfbfhlolnooipaa
open Go.RowKit Go.Deep
set_option linter.unusedVariables false

set_option maxHeartbeats 400000 in
theorem between_yes (n lo hi : Int) (h1 : lo ≤ n) (h2 : n ≤ hi) (w : World) :
    Calls Try.prog 44 #[.int .i64 n, .int .i64 lo, .int .i64 hi] w fun e w' => e = .returned (.bool true) ∧ w = w' := by
  go_enter Try.func44, Try.ntmps44
  go_wp2
  go_ret
  exact ⟨rfl, rfl⟩

set_option maxHeartbeats 400000 in
theorem between_no1 (n lo hi : Int) (h1 : n < lo) (w : World) :
    Calls Try.prog 44 #[.int .i64 n, .int .i64 lo, .int .i64 hi] w fun e w' => e = .returned (.bool false) ∧ w = w' := by
  have h : decide (lo ≤ n) = false := by simp; omega
  go_enter Try.func44, Try.ntmps44
  go_wp2
  go_ret
  exact ⟨rfl, rfl⟩

set_option maxHeartbeats 400000 in
theorem between_no2 (n lo hi : Int) (h1 : lo ≤ n) (h2 : hi < n) (w : World) :
    Calls Try.prog 44 #[.int .i64 n, .int .i64 lo, .int .i64 hi] w fun e w' => e = .returned (.bool false) ∧ w = w' := by
  have h : decide (n ≤ hi) = false := by simp; omega
  go_enter Try.func44, Try.ntmps44
  go_wp2
  go_ret
  exact ⟨rfl, rfl⟩

set_option maxHeartbeats 400000 in
theorem numbered_yes (n c : Int) (h1 : 1 ≤ n) (h2 : n ≤ c) (h3 : c ≤ 1000000) (w : World) :
    Calls Try.prog 51 #[.int .u64 n, .int .i64 c] w fun e w' => e = .returned (.bool true) ∧ w = w' := by
  go_enter Try.func51, Try.ntmps51
  go_wp2
  go_ret
  exact ⟨rfl, rfl⟩

set_option maxHeartbeats 400000 in
theorem numbered_no (n c : Int) (h1 : n < 1 ∨ c < n) (h2 : 0 ≤ c) (h3 : c ≤ 1000000) (w : World) :
    Calls Try.prog 51 #[.int .u64 n, .int .i64 c] w fun e w' => e = .returned (.bool false) ∧ w = w' := by
  by_cases hn : 1 ≤ n
  · have h : decide (n ≤ c) = false := by simp; omega
    clear h1
    go_enter Try.func51, Try.ntmps51
    go_wp2
    go_ret
    exact ⟨rfl, rfl⟩
  · have h : decide (1 ≤ n) = false := by simp; omega
    clear h1
    go_enter Try.func51, Try.ntmps51
    go_wp2
    go_ret
    exact ⟨rfl, rfl⟩

set_option maxHeartbeats 400000 in
theorem recordCells_any (n : Int) (h1 : 0 ≤ n) (h2 : n ≤ 1000000) (w : World) :
    Calls Try.prog 47 #[.int .i64 n] w fun e w' => e = .returned (.int .i64 (n * 3)) ∧ w = w' := by
  go_enter Try.func47, Try.ntmps47
  go_wp2
  go_ret
  exact ⟨ret_int (by omega), rfl⟩

set_option maxHeartbeats 400000 in
theorem nodeCells_any (T S N C R F K a b d n : Int) (h1 : 0 ≤ n) (h2 : n ≤ 1000000) (h3 : 0 ≤ n * F) (h4 : n * F ≤ 100000000) (w : World) :
    Calls Try.prog 43 #[.agg #[.int .i64 T, .int .i64 S, .int .i64 N, .int .i64 C, .int .i64 R, .int .i64 F, .int .u64 K, .int .i64 a, .int .i64 b, .int .i64 d], .int .i64 n] w fun e w' => e = .returned (.int .i64 (n * F + n * 4)) ∧ Kept (fun _ => False) w w' := by
  go_enter Try.func43, Try.ntmps43
  go_wp2
  go_ret
  exact ⟨ret_int (by omega), (Kept.refl _ _).alloc _⟩

set_option maxHeartbeats 400000 in
theorem cells_of (T S N C R F K a b d : Int) (hl : Lim T S N C R F) (hd : Reach3 a b d) (w : World) :
    Calls Try.prog 15 #[.agg #[.int .i64 T, .int .i64 S, .int .i64 N, .int .i64 C, .int .i64 R, .int .i64 F, .int .u64 K, .int .i64 a, .int .i64 b, .int .i64 d]] w fun e w' => e = .returned (.int .i64 (d + R * 3)) ∧ Kept (fun _ => False) w w' := by
  have lt1 := hl.t1
  have lt2 := hl.t2
  have ls1 := hl.s1
  have ls2 := hl.s2
  have ln1 := hl.n1
  have ln2 := hl.n2
  have lc1 := hl.c1
  have lc2 := hl.c2
  have lr1 := hl.r1
  have lr2 := hl.r2
  have lf1 := hl.f1
  have lf2 := hl.f2
  have la1 := hd.a1
  have la2 := hd.a2
  have lb1 := hd.b1
  have lb2 := hd.b2
  have ld1 := hd.d1
  have ld2 := hd.d2
  go_enter Try.func15, Try.ntmps15
  go_wp2
  go_quiet ((go_at_call 47; exact Calls.still (recordCells_any R (by omega) (by omega) _)))
  go_wp2
  go_ret
  exact ⟨rfl, ((Kept.refl _ _).alloc _).drewN _⟩

set_option maxHeartbeats 400000 in
theorem root_any (T S N C R F K a b d : Int) (w : World) :
    Calls Try.prog 17 #[.agg #[.int .i64 T, .int .i64 S, .int .i64 N, .int .i64 C, .int .i64 R, .int .i64 F, .int .u64 K, .int .i64 a, .int .i64 b, .int .i64 d]] w fun e w' => e = .returned (.int .i64 0) ∧ Kept (fun _ => False) w w' := by
  go_enter Try.func17, Try.ntmps17
  go_wp2
  go_ret
  exact ⟨rfl, (Kept.refl _ _).alloc _⟩

set_option maxHeartbeats 400000 in
theorem allocated_any (T S N C R F K a b d : Int) (w : World) :
    Calls Try.prog 18 #[.agg #[.int .i64 T, .int .i64 S, .int .i64 N, .int .i64 C, .int .i64 R, .int .i64 F, .int .u64 K, .int .i64 a, .int .i64 b, .int .i64 d]] w fun e w' => e = .returned (.int .i64 1) ∧ Kept (fun _ => False) w w' := by
  go_enter Try.func18, Try.ntmps18
  go_wp2
  go_ret
  exact ⟨rfl, (Kept.refl _ _).alloc _⟩

set_option maxHeartbeats 400000 in
theorem published_any (T S N C R F K a b d : Int) (w : World) :
    Calls Try.prog 19 #[.agg #[.int .i64 T, .int .i64 S, .int .i64 N, .int .i64 C, .int .i64 R, .int .i64 F, .int .u64 K, .int .i64 a, .int .i64 b, .int .i64 d]] w fun e w' => e = .returned (.int .i64 2) ∧ Kept (fun _ => False) w w' := by
  go_enter Try.func19, Try.ntmps19
  go_wp2
  go_ret
  exact ⟨rfl, (Kept.refl _ _).alloc _⟩

set_option maxHeartbeats 400000 in
theorem floor_any (T S N C R F K a b d : Int) (w : World) :
    Calls Try.prog 20 #[.agg #[.int .i64 T, .int .i64 S, .int .i64 N, .int .i64 C, .int .i64 R, .int .i64 F, .int .u64 K, .int .i64 a, .int .i64 b, .int .i64 d]] w fun e w' => e = .returned (.int .i64 3) ∧ Kept (fun _ => False) w w' := by
  go_enter Try.func20, Try.ntmps20
  go_wp2
  go_ret
  exact ⟨rfl, (Kept.refl _ _).alloc _⟩

set_option maxHeartbeats 400000 in
theorem nodes_any (T S N C R F K a b d : Int) (w : World) :
    Calls Try.prog 21 #[.agg #[.int .i64 T, .int .i64 S, .int .i64 N, .int .i64 C, .int .i64 R, .int .i64 F, .int .u64 K, .int .i64 a, .int .i64 b, .int .i64 d]] w fun e w' => e = .returned (.int .i64 4) ∧ Kept (fun _ => False) w w' := by
  go_enter Try.func21, Try.ntmps21
  go_wp2
  go_ret
  exact ⟨rfl, (Kept.refl _ _).alloc _⟩

set_option maxHeartbeats 400000 in
theorem chains_any (T S N C R F K a b d : Int) (w : World) :
    Calls Try.prog 22 #[.agg #[.int .i64 T, .int .i64 S, .int .i64 N, .int .i64 C, .int .i64 R, .int .i64 F, .int .u64 K, .int .i64 a, .int .i64 b, .int .i64 d]] w fun e w' => e = .returned (.int .i64 5) ∧ Kept (fun _ => False) w w' := by
  go_enter Try.func22, Try.ntmps22
  go_wp2
  go_ret
  exact ⟨rfl, (Kept.refl _ _).alloc _⟩

set_option maxHeartbeats 400000 in
theorem records_any (T S N C R F K a b d : Int) (w : World) :
    Calls Try.prog 23 #[.agg #[.int .i64 T, .int .i64 S, .int .i64 N, .int .i64 C, .int .i64 R, .int .i64 F, .int .u64 K, .int .i64 a, .int .i64 b, .int .i64 d]] w fun e w' => e = .returned (.int .i64 6) ∧ Kept (fun _ => False) w w' := by
  go_enter Try.func23, Try.ntmps23
  go_wp2
  go_ret
  exact ⟨rfl, (Kept.refl _ _).alloc _⟩

set_option maxHeartbeats 400000 in
theorem grow_any (T S N C R F K a b d : Int) (w : World) :
    Calls Try.prog 24 #[.agg #[.int .i64 T, .int .i64 S, .int .i64 N, .int .i64 C, .int .i64 R, .int .i64 F, .int .u64 K, .int .i64 a, .int .i64 b, .int .i64 d]] w fun e w' => e = .returned (.int .i64 7) ∧ Kept (fun _ => False) w w' := by
  go_enter Try.func24, Try.ntmps24
  go_wp2
  go_ret
  exact ⟨rfl, (Kept.refl _ _).alloc _⟩

set_option maxHeartbeats 400000 in
theorem node_yes (T S N C R F K a b d n part : Int) (hl : Lim T S N C R F) (hd : Reach3 a b d) (h1 : 1 ≤ n) (h2 : n ≤ N) (h3 : 0 ≤ part) (h4 : part ≤ 1000) (w : World) :
    Calls Try.prog 49 #[.agg #[.int .i64 T, .int .i64 S, .int .i64 N, .int .i64 C, .int .i64 R, .int .i64 F, .int .u64 K, .int .i64 a, .int .i64 b, .int .i64 d], .int .u64 n, .int .i64 part] w fun e w' => e = .returned (.int .i64 (nodeAt N F a n part)) ∧ Kept (fun _ => False) w w' := by
  have lt1 := hl.t1
  have lt2 := hl.t2
  have ls1 := hl.s1
  have ls2 := hl.s2
  have ln1 := hl.n1
  have ln2 := hl.n2
  have lc1 := hl.c1
  have lc2 := hl.c2
  have lr1 := hl.r1
  have lr2 := hl.r2
  have lf1 := hl.f1
  have lf2 := hl.f2
  have la1 := hd.a1
  have la2 := hd.a2
  have lb1 := hd.b1
  have lb2 := hd.b2
  have ld1 := hd.d1
  have ld2 := hd.d2
  have hp := mul_bd (n - 1) F 4096 32 (by omega) (by omega) (by omega) (by omega)
  have hp1 := hp.1
  have hp2 : (n - 1) * F ≤ 131072 := hp.2
  clear hp hl
  go_enter Try.func49, Try.ntmps49
  go_wp2_with (go_at_call 51; refine (numbered_yes n N h1 h2 (by omega) _).mono ?_; rintro e w1 ⟨rfl, rfl⟩)
  have hN0 := Blk.new w [.int .i64 T, .int .i64 S, .int .i64 N, .int .i64 C, .int .i64 R, .int .i64 F, .int .u64 K, .int .i64 a, .int .i64 b, .int .i64 d] 27
  have x0 := hN0.cell (i := 0) rfl
  have x1 := hN0.cell (i := 1) rfl
  have x2 := hN0.cell (i := 2) rfl
  have x3 := hN0.cell (i := 3) rfl
  have x4 := hN0.cell (i := 4) rfl
  have x5 := hN0.cell (i := 5) rfl
  have x6 := hN0.cell (i := 6) rfl
  have x7 := hN0.cell (i := 7) rfl
  have x8 := hN0.cell (i := 8) rfl
  have x9 := hN0.cell (i := 9) rfl
  have hr : w.heap.size < (w.alloc (.cells #[.int .i64 T, .int .i64 S, .int .i64 N, .int .i64 C, .int .i64 R, .int .i64 F, .int .u64 K, .int .i64 a, .int .i64 b, .int .i64 d] 27)).heap.size := hN0.lt
  have HK := Lib.hid ((Kept.refl (fun _ => False) w).alloc (.cells #[.int .i64 T, .int .i64 S, .int .i64 N, .int .i64 C, .int .i64 R, .int .i64 F, .int .u64 K, .int .i64 a, .int .i64 b, .int .i64 d] 27))
  clear hN0
  generalize w.alloc (.cells #[.int .i64 T, .int .i64 S, .int .i64 N, .int .i64 C, .int .i64 R, .int .i64 F, .int .u64 K, .int .i64 a, .int .i64 b, .int .i64 d] 27) = W at *
  generalize w.heap.size = r at *
  have e1 : IntKind.u64.wrap (n - 1) = n - 1 := IntWalk.u64_in _ (by omega)
  have e2 : IntKind.i64.wrap (n - 1) = n - 1 := IntWalk.i64_in _ (by omega)
  go_region_held3 (fun w' => Kept (fun _ => False) W w' ∧ w'.cell? ⟨r, 0, none⟩ = some (.int .i64 T) ∧ w'.cell? ⟨r, 1, none⟩ = some (.int .i64 S) ∧ w'.cell? ⟨r, 2, none⟩ = some (.int .i64 N) ∧ w'.cell? ⟨r, 3, none⟩ = some (.int .i64 C) ∧ w'.cell? ⟨r, 4, none⟩ = some (.int .i64 R) ∧ w'.cell? ⟨r, 5, none⟩ = some (.int .i64 F) ∧ w'.cell? ⟨r, 6, none⟩ = some (.int .u64 K) ∧ w'.cell? ⟨r, 7, none⟩ = some (.int .i64 a) ∧ w'.cell? ⟨r, 8, none⟩ = some (.int .i64 b) ∧ w'.cell? ⟨r, 9, none⟩ = some (.int .i64 d))
    (first | exact ⟨(Kept.refl _ _).drew, x0, x1, x2, x3, x4, x5, x6, x7, x8, x9⟩ | exact keep10 (by assumption) hr (by assumption) | exact keep10 (Kept.ofDrew (by assumption)) hr (by assumption))
    (first | (go_at_call 43; refine (nodeCells_any T S N C R F K a b d (n - 1) (by omega) (by omega) hp1 (by omega) _).mono ?_; rintro e w9 ⟨rfl, hK9⟩))
  go_wp2
  go_ret
  exact ⟨ret_int (by rw [IntWalk.i64_in (a + ((n - 1) * F + (n - 1) * 4)) (by omega), IntWalk.i64_in _ (by omega)]; unfold nodeAt; rw [if_pos ⟨h1, h2⟩]), HK.out.trans hK9.ofDrew (fun _ _ h => h)⟩

set_option maxHeartbeats 400000 in
theorem node_no (T S N C R F K a b d n part : Int) (hl : Lim T S N C R F) (h1 : n < 1 ∨ N < n) (w : World) :
    Calls Try.prog 49 #[.agg #[.int .i64 T, .int .i64 S, .int .i64 N, .int .i64 C, .int .i64 R, .int .i64 F, .int .u64 K, .int .i64 a, .int .i64 b, .int .i64 d], .int .u64 n, .int .i64 part] w fun e w' => e = .returned (.int .i64 (nodeAt N F a n part)) ∧ Kept (fun _ => False) w w' := by
  have ln1 := hl.n1
  have ln2 := hl.n2
  go_enter Try.func49, Try.ntmps49
  go_wp2_with (go_at_call 51; refine (numbered_no n N h1 (by omega) (by omega) _).mono ?_; rintro e w1 ⟨rfl, rfl⟩)
  go_ret
  exact ⟨ret_int (by unfold nodeAt; rw [if_neg (by omega)]), (Kept.refl _ _).alloc _⟩

theorem node_any (T S N C R F K a b d n part : Int) (hl : Lim T S N C R F) (hd : Reach3 a b d) (h3 : 0 ≤ part) (h4 : part ≤ 1000) (w : World) :
    Calls Try.prog 49 #[.agg #[.int .i64 T, .int .i64 S, .int .i64 N, .int .i64 C, .int .i64 R, .int .i64 F, .int .u64 K, .int .i64 a, .int .i64 b, .int .i64 d], .int .u64 n, .int .i64 part] w fun e w' => e = .returned (.int .i64 (nodeAt N F a n part)) ∧ Kept (fun _ => False) w w' := by
  by_cases h : 1 ≤ n ∧ n ≤ N
  · exact node_yes T S N C R F K a b d n part hl hd h.1 h.2 h3 h4 w
  · exact node_no T S N C R F K a b d n part hl (by omega) w
set_option maxHeartbeats 400000 in
theorem record_yes (T S N C R F K a b d n part : Int) (hl : Lim T S N C R F) (hd : Reach3 a b d) (h1 : 1 ≤ n) (h2 : n ≤ R) (h3 : 0 ≤ part) (h4 : part ≤ 1000) (w : World) :
    Calls Try.prog 53 #[.agg #[.int .i64 T, .int .i64 S, .int .i64 N, .int .i64 C, .int .i64 R, .int .i64 F, .int .u64 K, .int .i64 a, .int .i64 b, .int .i64 d], .int .u64 n, .int .i64 part] w fun e w' => e = .returned (.int .i64 (recAt R d n part)) ∧ Kept (fun _ => False) w w' := by
  have lt1 := hl.t1
  have lt2 := hl.t2
  have ls1 := hl.s1
  have ls2 := hl.s2
  have ln1 := hl.n1
  have ln2 := hl.n2
  have lc1 := hl.c1
  have lc2 := hl.c2
  have lr1 := hl.r1
  have lr2 := hl.r2
  have lf1 := hl.f1
  have lf2 := hl.f2
  have la1 := hd.a1
  have la2 := hd.a2
  have lb1 := hd.b1
  have lb2 := hd.b2
  have ld1 := hd.d1
  have ld2 := hd.d2
  have e1 : IntKind.u64.wrap (n - 1) = n - 1 := IntWalk.u64_in _ (by omega)
  have e2 : IntKind.i64.wrap (n - 1) = n - 1 := IntWalk.i64_in _ (by omega)
  go_enter Try.func53, Try.ntmps53
  go_wp2_with (go_at_call 51; refine (numbered_yes n R h1 h2 (by omega) _).mono ?_; rintro e w1 ⟨rfl, rfl⟩)
  go_quiet ((go_at_call 47; exact Calls.still (recordCells_any (n - 1) (by omega) (by omega) _)))
  go_wp2
  go_ret
  exact ⟨ret_int (by unfold recAt; rw [if_pos ⟨h1, h2⟩]), ((Kept.refl _ _).alloc _).drewN _⟩

set_option maxHeartbeats 400000 in
theorem record_no (T S N C R F K a b d n part : Int) (hl : Lim T S N C R F) (h1 : n < 1 ∨ R < n) (w : World) :
    Calls Try.prog 53 #[.agg #[.int .i64 T, .int .i64 S, .int .i64 N, .int .i64 C, .int .i64 R, .int .i64 F, .int .u64 K, .int .i64 a, .int .i64 b, .int .i64 d], .int .u64 n, .int .i64 part] w fun e w' => e = .returned (.int .i64 (recAt R d n part)) ∧ Kept (fun _ => False) w w' := by
  have lr1 := hl.r1
  have lr2 := hl.r2
  go_enter Try.func53, Try.ntmps53
  go_wp2_with (go_at_call 51; refine (numbered_no n R h1 (by omega) (by omega) _).mono ?_; rintro e w1 ⟨rfl, rfl⟩)
  go_ret
  exact ⟨ret_int (by unfold recAt; rw [if_neg (by omega)]), (Kept.refl _ _).alloc _⟩

theorem record_any (T S N C R F K a b d n part : Int) (hl : Lim T S N C R F) (hd : Reach3 a b d) (h3 : 0 ≤ part) (h4 : part ≤ 1000) (w : World) :
    Calls Try.prog 53 #[.agg #[.int .i64 T, .int .i64 S, .int .i64 N, .int .i64 C, .int .i64 R, .int .i64 F, .int .u64 K, .int .i64 a, .int .i64 b, .int .i64 d], .int .u64 n, .int .i64 part] w fun e w' => e = .returned (.int .i64 (recAt R d n part)) ∧ Kept (fun _ => False) w w' := by
  by_cases h : 1 ≤ n ∧ n ≤ R
  · exact record_yes T S N C R F K a b d n part hl hd h.1 h.2 h3 h4 w
  · exact record_no T S N C R F K a b d n part hl (by omega) w
set_option maxHeartbeats 400000 in
theorem latch_any (T S N C R F K a b d n : Int) (hl : Lim T S N C R F) (hd : Reach3 a b d) (w : World) :
    Calls Try.prog 27 #[.agg #[.int .i64 T, .int .i64 S, .int .i64 N, .int .i64 C, .int .i64 R, .int .i64 F, .int .u64 K, .int .i64 a, .int .i64 b, .int .i64 d], .int .u64 n] w fun e w' => e = .returned (.int .i64 (nodeAt N F a n 0)) ∧ Kept (fun _ => False) w w' := by
  go_enter Try.func27, Try.ntmps27
  go_wp2_with (go_at_call 49; refine (node_any T S N C R F K a b d n 0 hl hd (by omega) (by omega) _).mono ?_; rintro e w1 ⟨rfl, hK1⟩)
  go_ret
  exact ⟨rfl, ((Kept.refl _ _).alloc _).trans hK1 (fun _ _ h => h)⟩

set_option maxHeartbeats 400000 in
theorem head_any (T S N C R F K a b d n : Int) (hl : Lim T S N C R F) (hd : Reach3 a b d) (w : World) :
    Calls Try.prog 29 #[.agg #[.int .i64 T, .int .i64 S, .int .i64 N, .int .i64 C, .int .i64 R, .int .i64 F, .int .u64 K, .int .i64 a, .int .i64 b, .int .i64 d], .int .u64 n] w fun e w' => e = .returned (.int .i64 (nodeAt N F a n 1)) ∧ Kept (fun _ => False) w w' := by
  go_enter Try.func29, Try.ntmps29
  go_wp2_with (go_at_call 49; refine (node_any T S N C R F K a b d n 1 hl hd (by omega) (by omega) _).mono ?_; rintro e w1 ⟨rfl, hK1⟩)
  go_ret
  exact ⟨rfl, ((Kept.refl _ _).alloc _).trans hK1 (fun _ _ h => h)⟩

set_option maxHeartbeats 400000 in
theorem high_any (T S N C R F K a b d n : Int) (hl : Lim T S N C R F) (hd : Reach3 a b d) (w : World) :
    Calls Try.prog 30 #[.agg #[.int .i64 T, .int .i64 S, .int .i64 N, .int .i64 C, .int .i64 R, .int .i64 F, .int .u64 K, .int .i64 a, .int .i64 b, .int .i64 d], .int .u64 n] w fun e w' => e = .returned (.int .i64 (nodeAt N F a n 2)) ∧ Kept (fun _ => False) w w' := by
  go_enter Try.func30, Try.ntmps30
  go_wp2_with (go_at_call 49; refine (node_any T S N C R F K a b d n 2 hl hd (by omega) (by omega) _).mono ?_; rintro e w1 ⟨rfl, hK1⟩)
  go_ret
  exact ⟨rfl, ((Kept.refl _ _).alloc _).trans hK1 (fun _ _ h => h)⟩

set_option maxHeartbeats 400000 in
theorem right_any (T S N C R F K a b d n : Int) (hl : Lim T S N C R F) (hd : Reach3 a b d) (w : World) :
    Calls Try.prog 31 #[.agg #[.int .i64 T, .int .i64 S, .int .i64 N, .int .i64 C, .int .i64 R, .int .i64 F, .int .u64 K, .int .i64 a, .int .i64 b, .int .i64 d], .int .u64 n] w fun e w' => e = .returned (.int .i64 (nodeAt N F a n 3)) ∧ Kept (fun _ => False) w w' := by
  go_enter Try.func31, Try.ntmps31
  go_wp2_with (go_at_call 49; refine (node_any T S N C R F K a b d n 3 hl hd (by omega) (by omega) _).mono ?_; rintro e w1 ⟨rfl, hK1⟩)
  go_ret
  exact ⟨rfl, ((Kept.refl _ _).alloc _).trans hK1 (fun _ _ h => h)⟩

set_option maxHeartbeats 400000 in
theorem stamp_any (T S N C R F K a b d n : Int) (hl : Lim T S N C R F) (hd : Reach3 a b d) (w : World) :
    Calls Try.prog 34 #[.agg #[.int .i64 T, .int .i64 S, .int .i64 N, .int .i64 C, .int .i64 R, .int .i64 F, .int .u64 K, .int .i64 a, .int .i64 b, .int .i64 d], .int .u64 n] w fun e w' => e = .returned (.int .i64 (recAt R d n 0)) ∧ Kept (fun _ => False) w w' := by
  go_enter Try.func34, Try.ntmps34
  go_wp2_with (go_at_call 53; refine (record_any T S N C R F K a b d n 0 hl hd (by omega) (by omega) _).mono ?_; rintro e w1 ⟨rfl, hK1⟩)
  go_ret
  exact ⟨rfl, ((Kept.refl _ _).alloc _).trans hK1 (fun _ _ h => h)⟩

set_option maxHeartbeats 400000 in
theorem value_any (T S N C R F K a b d n : Int) (hl : Lim T S N C R F) (hd : Reach3 a b d) (w : World) :
    Calls Try.prog 36 #[.agg #[.int .i64 T, .int .i64 S, .int .i64 N, .int .i64 C, .int .i64 R, .int .i64 F, .int .u64 K, .int .i64 a, .int .i64 b, .int .i64 d], .int .u64 n] w fun e w' => e = .returned (.int .i64 (recAt R d n 1)) ∧ Kept (fun _ => False) w w' := by
  go_enter Try.func36, Try.ntmps36
  go_wp2_with (go_at_call 53; refine (record_any T S N C R F K a b d n 1 hl hd (by omega) (by omega) _).mono ?_; rintro e w1 ⟨rfl, hK1⟩)
  go_ret
  exact ⟨rfl, ((Kept.refl _ _).alloc _).trans hK1 (fun _ _ h => h)⟩

set_option maxHeartbeats 400000 in
theorem next_any (T S N C R F K a b d n : Int) (hl : Lim T S N C R F) (hd : Reach3 a b d) (w : World) :
    Calls Try.prog 37 #[.agg #[.int .i64 T, .int .i64 S, .int .i64 N, .int .i64 C, .int .i64 R, .int .i64 F, .int .u64 K, .int .i64 a, .int .i64 b, .int .i64 d], .int .u64 n] w fun e w' => e = .returned (.int .i64 (recAt R d n 2)) ∧ Kept (fun _ => False) w w' := by
  go_enter Try.func37, Try.ntmps37
  go_wp2_with (go_at_call 53; refine (record_any T S N C R F K a b d n 2 hl hd (by omega) (by omega) _).mono ?_; rintro e w1 ⟨rfl, hK1⟩)
  go_ret
  exact ⟨rfl, ((Kept.refl _ _).alloc _).trans hK1 (fun _ _ h => h)⟩

set_option maxHeartbeats 400000 in
theorem slot_yes (T S N C R F K a b d n i : Int) (hl : Lim T S N C R F) (hd : Reach3 a b d) (h1 : 0 ≤ i) (h2 : i < F) (w : World) :
    Calls Try.prog 38 #[.agg #[.int .i64 T, .int .i64 S, .int .i64 N, .int .i64 C, .int .i64 R, .int .i64 F, .int .u64 K, .int .i64 a, .int .i64 b, .int .i64 d], .int .u64 n, .int .i64 i] w fun e w' => e = .returned (.int .i64 (slotAt N F a n i)) ∧ Kept (fun _ => False) w w' := by
  have lt1 := hl.t1
  have lt2 := hl.t2
  have ls1 := hl.s1
  have ls2 := hl.s2
  have ln1 := hl.n1
  have ln2 := hl.n2
  have lc1 := hl.c1
  have lc2 := hl.c2
  have lr1 := hl.r1
  have lr2 := hl.r2
  have lf1 := hl.f1
  have lf2 := hl.f2
  go_enter Try.func38, Try.ntmps38
  go_wp2_with (first | (go_at_call 44; refine (between_yes i 0 (F - 1) h1 (by omega) _).mono ?_; rintro e w1 ⟨rfl, rfl⟩) | (go_at_call 49; refine (node_any T S N C R F K a b d n (4 + i) hl hd (by omega) (by omega) _).mono ?_; rintro e w2 ⟨rfl, hK1⟩))
  go_ret
  exact ⟨ret_int (by unfold slotAt; rw [if_pos ⟨h1, h2⟩]), ((Kept.refl _ _).alloc _).trans hK1 (fun _ _ h => h)⟩

set_option maxHeartbeats 400000 in
theorem slot_no1 (T S N C R F K a b d n i : Int) (hl : Lim T S N C R F) (h1 : i < 0) (w : World) :
    Calls Try.prog 38 #[.agg #[.int .i64 T, .int .i64 S, .int .i64 N, .int .i64 C, .int .i64 R, .int .i64 F, .int .u64 K, .int .i64 a, .int .i64 b, .int .i64 d], .int .u64 n, .int .i64 i] w fun e w' => e = .returned (.int .i64 (slotAt N F a n i)) ∧ Kept (fun _ => False) w w' := by
  have lt1 := hl.t1
  have lt2 := hl.t2
  have ls1 := hl.s1
  have ls2 := hl.s2
  have ln1 := hl.n1
  have ln2 := hl.n2
  have lc1 := hl.c1
  have lc2 := hl.c2
  have lr1 := hl.r1
  have lr2 := hl.r2
  have lf1 := hl.f1
  have lf2 := hl.f2
  go_enter Try.func38, Try.ntmps38
  go_wp2_with (go_at_call 44; refine (between_no1 i 0 (F - 1) h1 _).mono ?_; rintro e w1 ⟨rfl, rfl⟩)
  go_ret
  exact ⟨ret_int (by unfold slotAt; rw [if_neg (by omega)]), (Kept.refl _ _).alloc _⟩

set_option maxHeartbeats 400000 in
theorem slot_no2 (T S N C R F K a b d n i : Int) (hl : Lim T S N C R F) (h1 : F ≤ i) (w : World) :
    Calls Try.prog 38 #[.agg #[.int .i64 T, .int .i64 S, .int .i64 N, .int .i64 C, .int .i64 R, .int .i64 F, .int .u64 K, .int .i64 a, .int .i64 b, .int .i64 d], .int .u64 n, .int .i64 i] w fun e w' => e = .returned (.int .i64 (slotAt N F a n i)) ∧ Kept (fun _ => False) w w' := by
  have lt1 := hl.t1
  have lt2 := hl.t2
  have ls1 := hl.s1
  have ls2 := hl.s2
  have ln1 := hl.n1
  have ln2 := hl.n2
  have lc1 := hl.c1
  have lc2 := hl.c2
  have lr1 := hl.r1
  have lr2 := hl.r2
  have lf1 := hl.f1
  have lf2 := hl.f2
  go_enter Try.func38, Try.ntmps38
  go_wp2_with (go_at_call 44; refine (between_no2 i 0 (F - 1) (by omega) (by omega) _).mono ?_; rintro e w1 ⟨rfl, rfl⟩)
  go_ret
  exact ⟨ret_int (by unfold slotAt; rw [if_neg (by omega)]), (Kept.refl _ _).alloc _⟩

theorem slot_any (T S N C R F K a b d n i : Int) (hl : Lim T S N C R F) (hd : Reach3 a b d) (w : World) :
    Calls Try.prog 38 #[.agg #[.int .i64 T, .int .i64 S, .int .i64 N, .int .i64 C, .int .i64 R, .int .i64 F, .int .u64 K, .int .i64 a, .int .i64 b, .int .i64 d], .int .u64 n, .int .i64 i] w fun e w' => e = .returned (.int .i64 (slotAt N F a n i)) ∧ Kept (fun _ => False) w w' := by
  by_cases h : 0 ≤ i ∧ i < F
  · exact slot_yes T S N C R F K a b d n i hl hd h.1 h.2 w
  · exact (if h' : i < 0 then slot_no1 T S N C R F K a b d n i hl h' w else slot_no2 T S N C R F K a b d n i hl (by omega) w)
set_option maxHeartbeats 400000 in
theorem chain_yes (T S N C R F K a b d n : Int) (hl : Lim T S N C R F) (hd : Reach3 a b d) (h1 : 1 ≤ n) (h2 : n ≤ C) (w : World) :
    Calls Try.prog 32 #[.agg #[.int .i64 T, .int .i64 S, .int .i64 N, .int .i64 C, .int .i64 R, .int .i64 F, .int .u64 K, .int .i64 a, .int .i64 b, .int .i64 d], .int .u64 n] w fun e w' => e = .returned (.int .i64 (chainAt C b n)) ∧ Kept (fun _ => False) w w' := by
  have lt1 := hl.t1
  have lt2 := hl.t2
  have ls1 := hl.s1
  have ls2 := hl.s2
  have ln1 := hl.n1
  have ln2 := hl.n2
  have lc1 := hl.c1
  have lc2 := hl.c2
  have lr1 := hl.r1
  have lr2 := hl.r2
  have lf1 := hl.f1
  have lf2 := hl.f2
  have la1 := hd.a1
  have la2 := hd.a2
  have lb1 := hd.b1
  have lb2 := hd.b2
  have ld1 := hd.d1
  have ld2 := hd.d2
  go_enter Try.func32, Try.ntmps32
  go_wp2_with (go_at_call 51; refine (numbered_yes n C h1 h2 (by omega) _).mono ?_; rintro e w1 ⟨rfl, rfl⟩)
  go_ret
  exact ⟨ret_int (by unfold chainAt; rw [if_pos ⟨h1, h2⟩]), (Kept.refl _ _).alloc _⟩

set_option maxHeartbeats 400000 in
theorem chain_no (T S N C R F K a b d n : Int) (hl : Lim T S N C R F) (h1 : n < 1 ∨ C < n) (w : World) :
    Calls Try.prog 32 #[.agg #[.int .i64 T, .int .i64 S, .int .i64 N, .int .i64 C, .int .i64 R, .int .i64 F, .int .u64 K, .int .i64 a, .int .i64 b, .int .i64 d], .int .u64 n] w fun e w' => e = .returned (.int .i64 (chainAt C b n)) ∧ Kept (fun _ => False) w w' := by
  have lt1 := hl.t1
  have lt2 := hl.t2
  have ls1 := hl.s1
  have ls2 := hl.s2
  have ln1 := hl.n1
  have ln2 := hl.n2
  have lc1 := hl.c1
  have lc2 := hl.c2
  have lr1 := hl.r1
  have lr2 := hl.r2
  have lf1 := hl.f1
  have lf2 := hl.f2
  go_enter Try.func32, Try.ntmps32
  go_wp2_with (go_at_call 51; refine (numbered_no n C h1 (by omega) (by omega) _).mono ?_; rintro e w1 ⟨rfl, rfl⟩)
  go_ret
  exact ⟨ret_int (by unfold chainAt; rw [if_neg (by omega)]), (Kept.refl _ _).alloc _⟩

theorem chain_any (T S N C R F K a b d n : Int) (hl : Lim T S N C R F) (hd : Reach3 a b d) (w : World) :
    Calls Try.prog 32 #[.agg #[.int .i64 T, .int .i64 S, .int .i64 N, .int .i64 C, .int .i64 R, .int .i64 F, .int .u64 K, .int .i64 a, .int .i64 b, .int .i64 d], .int .u64 n] w fun e w' => e = .returned (.int .i64 (chainAt C b n)) ∧ Kept (fun _ => False) w w' := by
  by_cases h : 1 ≤ n ∧ n ≤ C
  · exact chain_yes T S N C R F K a b d n hl hd h.1 h.2 w
  · exact chain_no T S N C R F K a b d n hl (by omega) w
set_option maxHeartbeats 400000 in
theorem snap_yes (T S N C R F K a b d t j : Int) (hl : Lim T S N C R F) (h1 : 0 ≤ t) (h2 : t < T) (h3 : 0 ≤ j) (h4 : j < S) (w : World) :
    Calls Try.prog 25 #[.agg #[.int .i64 T, .int .i64 S, .int .i64 N, .int .i64 C, .int .i64 R, .int .i64 F, .int .u64 K, .int .i64 a, .int .i64 b, .int .i64 d], .int .i64 t, .int .i64 j] w fun e w' => e = .returned (.int .i64 (snapAt T S t j)) ∧ Kept (fun _ => False) w w' := by
  have lt1 := hl.t1
  have lt2 := hl.t2
  have ls1 := hl.s1
  have ls2 := hl.s2
  have ln1 := hl.n1
  have ln2 := hl.n2
  have lc1 := hl.c1
  have lc2 := hl.c2
  have lr1 := hl.r1
  have lr2 := hl.r2
  have lf1 := hl.f1
  have lf2 := hl.f2
  have hp := mul_bd t S 64 8 h1 (by omega) (by omega) (by omega)
  have hp1 := hp.1
  have hp2 : t * S ≤ 512 := hp.2
  clear hp
  go_enter Try.func25, Try.ntmps25
  go_wp2_with (first | (go_at_call 44; with_reducible refine (between_yes t 0 (T - 1) h1 (by omega) _).mono ?_; rintro e w1 ⟨rfl, rfl⟩) | (go_at_call 44; with_reducible refine (between_yes j 0 (S - 1) h3 (by omega) _).mono ?_; rintro e w1 ⟨rfl, rfl⟩))
  go_ret
  exact ⟨ret_int (by unfold snapAt; rw [if_pos ⟨h1, h2, h3, h4⟩]), (Kept.refl _ _).alloc _⟩

set_option maxHeartbeats 400000 in
theorem snap_no1 (T S N C R F K a b d t j : Int) (hl : Lim T S N C R F) (h1 : t < 0) (w : World) :
    Calls Try.prog 25 #[.agg #[.int .i64 T, .int .i64 S, .int .i64 N, .int .i64 C, .int .i64 R, .int .i64 F, .int .u64 K, .int .i64 a, .int .i64 b, .int .i64 d], .int .i64 t, .int .i64 j] w fun e w' => e = .returned (.int .i64 (snapAt T S t j)) ∧ Kept (fun _ => False) w w' := by
  have lt1 := hl.t1
  have lt2 := hl.t2
  have ls1 := hl.s1
  have ls2 := hl.s2
  have ln1 := hl.n1
  have ln2 := hl.n2
  have lc1 := hl.c1
  have lc2 := hl.c2
  have lr1 := hl.r1
  have lr2 := hl.r2
  have lf1 := hl.f1
  have lf2 := hl.f2
  go_enter Try.func25, Try.ntmps25
  go_wp2_with (go_at_call 44; refine (between_no1 t 0 (T - 1) h1 _).mono ?_; rintro e w1 ⟨rfl, rfl⟩)
  go_ret
  exact ⟨ret_int (by unfold snapAt; rw [if_neg (by omega)]), (Kept.refl _ _).alloc _⟩

set_option maxHeartbeats 400000 in
theorem snap_no2 (T S N C R F K a b d t j : Int) (hl : Lim T S N C R F) (h1 : T ≤ t) (w : World) :
    Calls Try.prog 25 #[.agg #[.int .i64 T, .int .i64 S, .int .i64 N, .int .i64 C, .int .i64 R, .int .i64 F, .int .u64 K, .int .i64 a, .int .i64 b, .int .i64 d], .int .i64 t, .int .i64 j] w fun e w' => e = .returned (.int .i64 (snapAt T S t j)) ∧ Kept (fun _ => False) w w' := by
  have lt1 := hl.t1
  have lt2 := hl.t2
  have ls1 := hl.s1
  have ls2 := hl.s2
  have ln1 := hl.n1
  have ln2 := hl.n2
  have lc1 := hl.c1
  have lc2 := hl.c2
  have lr1 := hl.r1
  have lr2 := hl.r2
  have lf1 := hl.f1
  have lf2 := hl.f2
  go_enter Try.func25, Try.ntmps25
  go_wp2_with (go_at_call 44; refine (between_no2 t 0 (T - 1) (by omega) (by omega) _).mono ?_; rintro e w1 ⟨rfl, rfl⟩)
  go_ret
  exact ⟨ret_int (by unfold snapAt; rw [if_neg (by omega)]), (Kept.refl _ _).alloc _⟩

set_option maxHeartbeats 400000 in
theorem snap_no3 (T S N C R F K a b d t j : Int) (hl : Lim T S N C R F) (h1 : 0 ≤ t) (h2 : t < T) (h3 : j < 0) (w : World) :
    Calls Try.prog 25 #[.agg #[.int .i64 T, .int .i64 S, .int .i64 N, .int .i64 C, .int .i64 R, .int .i64 F, .int .u64 K, .int .i64 a, .int .i64 b, .int .i64 d], .int .i64 t, .int .i64 j] w fun e w' => e = .returned (.int .i64 (snapAt T S t j)) ∧ Kept (fun _ => False) w w' := by
  have lt1 := hl.t1
  have lt2 := hl.t2
  have ls1 := hl.s1
  have ls2 := hl.s2
  have ln1 := hl.n1
  have ln2 := hl.n2
  have lc1 := hl.c1
  have lc2 := hl.c2
  have lr1 := hl.r1
  have lr2 := hl.r2
  have lf1 := hl.f1
  have lf2 := hl.f2
  go_enter Try.func25, Try.ntmps25
  go_wp2_with (first | (go_at_call 44; with_reducible refine (between_yes t 0 (T - 1) h1 (by omega) _).mono ?_; rintro e w1 ⟨rfl, rfl⟩) | (go_at_call 44; with_reducible refine (between_no1 j 0 (S - 1) h3 _).mono ?_; rintro e w1 ⟨rfl, rfl⟩))
  go_ret
  exact ⟨ret_int (by unfold snapAt; rw [if_neg (by omega)]), (Kept.refl _ _).alloc _⟩

set_option maxHeartbeats 400000 in
theorem snap_no4 (T S N C R F K a b d t j : Int) (hl : Lim T S N C R F) (h1 : 0 ≤ t) (h2 : t < T) (h3 : S ≤ j) (w : World) :
    Calls Try.prog 25 #[.agg #[.int .i64 T, .int .i64 S, .int .i64 N, .int .i64 C, .int .i64 R, .int .i64 F, .int .u64 K, .int .i64 a, .int .i64 b, .int .i64 d], .int .i64 t, .int .i64 j] w fun e w' => e = .returned (.int .i64 (snapAt T S t j)) ∧ Kept (fun _ => False) w w' := by
  have lt1 := hl.t1
  have lt2 := hl.t2
  have ls1 := hl.s1
  have ls2 := hl.s2
  have ln1 := hl.n1
  have ln2 := hl.n2
  have lc1 := hl.c1
  have lc2 := hl.c2
  have lr1 := hl.r1
  have lr2 := hl.r2
  have lf1 := hl.f1
  have lf2 := hl.f2
  go_enter Try.func25, Try.ntmps25
  go_wp2_with (first | (go_at_call 44; with_reducible refine (between_yes t 0 (T - 1) h1 (by omega) _).mono ?_; rintro e w1 ⟨rfl, rfl⟩) | (go_at_call 44; with_reducible refine (between_no2 j 0 (S - 1) (by omega) (by omega) _).mono ?_; rintro e w1 ⟨rfl, rfl⟩))
  go_ret
  exact ⟨ret_int (by unfold snapAt; rw [if_neg (by omega)]), (Kept.refl _ _).alloc _⟩

theorem snap_any (T S N C R F K a b d t j : Int) (hl : Lim T S N C R F) (w : World) :
    Calls Try.prog 25 #[.agg #[.int .i64 T, .int .i64 S, .int .i64 N, .int .i64 C, .int .i64 R, .int .i64 F, .int .u64 K, .int .i64 a, .int .i64 b, .int .i64 d], .int .i64 t, .int .i64 j] w fun e w' => e = .returned (.int .i64 (snapAt T S t j)) ∧ Kept (fun _ => False) w w' := by
  by_cases h1 : t < 0
  · exact snap_no1 T S N C R F K a b d t j hl h1 w
  by_cases h2 : T ≤ t
  · exact snap_no2 T S N C R F K a b d t j hl h2 w
  by_cases h3 : j < 0
  · exact snap_no3 T S N C R F K a b d t j hl (by omega) (by omega) h3 w
  by_cases h4 : S ≤ j
  · exact snap_no4 T S N C R F K a b d t j hl (by omega) (by omega) h4 w
  · exact snap_yes T S N C R F K a b d t j hl (by omega) (by omega) (by omega) (by omega) w
end Go.Proofs.Ytfbfhlolnooipaa
