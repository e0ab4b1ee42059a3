/-
  What the functions of package layout that Start, Config, Allocated and Published need answer, and those of its reference: contracts for every configuration. Condition: a size within its limits.
-/
import Derived.Test.YtddjggckmmdicaaCloMem
import Derived.Test.YtddjggckmmdicaaLayPlain
import Derived.Deep.RegionHeld3
import Derived.Deep.DeepCutAuto
namespace Go.Proofs.Ytddjggckmmdicaa
open Go.RowKit Go.Deep
set_option linter.unusedVariables false

set_option linter.unusedVariables false

set_option maxHeartbeats 400000 in
theorem between_yes (n lo hi : Int) (h1 : lo ≤ n) (h2 : n ≤ hi) (w : World) :
    Calls Try.prog 49 #[.int .i64 n, .int .i64 lo, .int .i64 hi] w fun e w' => e = .returned (.bool true) ∧ w = w' := by
  go_enter Try.func49, Try.ntmps49
  go_wp2
  go_ret
  exact ⟨rfl, rfl⟩

set_option maxHeartbeats 400000 in
theorem numbered_yes (n c : Int) (h1 : 1 ≤ n) (h2 : n ≤ c) (h3 : c ≤ 1000000) (w : World) :
    Calls Try.prog 61 #[.int .u64 n, .int .i64 c] w fun e w' => e = .returned (.bool true) ∧ w = w' := by
  go_enter Try.func61, Try.ntmps61
  go_wp2
  go_ret
  exact ⟨rfl, rfl⟩

set_option maxHeartbeats 400000 in
theorem numbered_no (n c : Int) (h1 : n < 1 ∨ c < n) (h2 : 0 ≤ c) (h3 : c ≤ 1000000) (w : World) :
    Calls Try.prog 61 #[.int .u64 n, .int .i64 c] w fun e w' => e = .returned (.bool false) ∧ w = w' := by
  by_cases hn : 1 ≤ n
  · have h : decide (n ≤ c) = false := by simp; omega
    clear h1
    go_enter Try.func61, Try.ntmps61
    go_wp2
    go_ret
    exact ⟨rfl, rfl⟩
  · have h : decide (1 ≤ n) = false := by simp; omega
    clear h1
    go_enter Try.func61, Try.ntmps61
    go_wp2
    go_ret
    exact ⟨rfl, rfl⟩

set_option maxHeartbeats 400000 in
theorem recordCells_any (n : Int) (h1 : 0 ≤ n) (h2 : n ≤ 1000000) (w : World) :
    Calls Try.prog 46 #[.int .i64 n] w fun e w' => e = .returned (.int .i64 (n * 3)) ∧ w = w' := by
  go_enter Try.func46, Try.ntmps46
  go_wp2
  go_ret
  exact ⟨ret_int (by omega), rfl⟩

set_option maxHeartbeats 400000 in
theorem nodeCells_any (T S N C R F K a b d n : Int) (h1 : 0 ≤ n) (h2 : n ≤ 1000000) (h3 : 0 ≤ n * F) (h4 : n * F ≤ 100000000) (w : World) :
    Calls Try.prog 45 #[.agg #[.int .i64 T, .int .i64 S, .int .i64 N, .int .i64 C, .int .i64 R, .int .i64 F, .int .u64 K, .int .i64 a, .int .i64 b, .int .i64 d], .int .i64 n] w fun e w' => e = .returned (.int .i64 (n * F + n * 4)) ∧ Kept (fun _ => False) w w' := by
  go_enter Try.func45, Try.ntmps45
  go_wp2
  go_ret
  exact ⟨ret_int (by omega), (Kept.refl _ _).alloc _⟩

set_option maxHeartbeats 400000 in
theorem cells_of (T S N C R F K a b d : Int) (hl : Lim T S N C R F) (hd : Reach3 a b d) (w : World) :
    Calls Try.prog 34 #[.agg #[.int .i64 T, .int .i64 S, .int .i64 N, .int .i64 C, .int .i64 R, .int .i64 F, .int .u64 K, .int .i64 a, .int .i64 b, .int .i64 d]] w fun e w' => e = .returned (.int .i64 (d + R * 3)) ∧ Kept (fun _ => False) w w' := by
  have lt1 := hl.t1
  have lt2 := hl.t2
  have ls1 := hl.s1
  have ls2 := hl.s2
  have ln1 := hl.n1
  have ln2 := hl.n2
  have lc1 := hl.c1
  have lc2 := hl.c2
  have lr1 := hl.r1
  have lr2 := hl.r2
  have lf1 := hl.f1
  have lf2 := hl.f2
  have la1 := hd.a1
  have la2 := hd.a2
  have lb1 := hd.b1
  have lb2 := hd.b2
  have ld1 := hd.d1
  have ld2 := hd.d2
  go_enter Try.func34, Try.ntmps34
  go_wp2
  go_quiet ((go_at_call 46; exact Calls.still (recordCells_any R (by omega) (by omega) _)))
  go_wp2
  go_ret
  exact ⟨rfl, ((Kept.refl _ _).alloc _).drewN _⟩

set_option maxHeartbeats 400000 in
theorem root_any (T S N C R F K a b d : Int) (w : World) :
    Calls Try.prog 35 #[.agg #[.int .i64 T, .int .i64 S, .int .i64 N, .int .i64 C, .int .i64 R, .int .i64 F, .int .u64 K, .int .i64 a, .int .i64 b, .int .i64 d]] w fun e w' => e = .returned (.int .i64 0) ∧ Kept (fun _ => False) w w' := by
  go_enter Try.func35, Try.ntmps35
  go_wp2
  go_ret
  exact ⟨rfl, (Kept.refl _ _).alloc _⟩

set_option maxHeartbeats 400000 in
theorem published_any (T S N C R F K a b d : Int) (w : World) :
    Calls Try.prog 39 #[.agg #[.int .i64 T, .int .i64 S, .int .i64 N, .int .i64 C, .int .i64 R, .int .i64 F, .int .u64 K, .int .i64 a, .int .i64 b, .int .i64 d]] w fun e w' => e = .returned (.int .i64 2) ∧ Kept (fun _ => False) w w' := by
  go_enter Try.func39, Try.ntmps39
  go_wp2
  go_ret
  exact ⟨rfl, (Kept.refl _ _).alloc _⟩

set_option maxHeartbeats 400000 in
theorem nodes_any (T S N C R F K a b d : Int) (w : World) :
    Calls Try.prog 36 #[.agg #[.int .i64 T, .int .i64 S, .int .i64 N, .int .i64 C, .int .i64 R, .int .i64 F, .int .u64 K, .int .i64 a, .int .i64 b, .int .i64 d]] w fun e w' => e = .returned (.int .i64 4) ∧ Kept (fun _ => False) w w' := by
  go_enter Try.func36, Try.ntmps36
  go_wp2
  go_ret
  exact ⟨rfl, (Kept.refl _ _).alloc _⟩

set_option maxHeartbeats 400000 in
theorem node_yes (T S N C R F K a b d n part : Int) (hl : Lim T S N C R F) (hd : Reach3 a b d) (h1 : 1 ≤ n) (h2 : n ≤ N) (h3 : 0 ≤ part) (h4 : part ≤ 1000) (w : World) :
    Calls Try.prog 47 #[.agg #[.int .i64 T, .int .i64 S, .int .i64 N, .int .i64 C, .int .i64 R, .int .i64 F, .int .u64 K, .int .i64 a, .int .i64 b, .int .i64 d], .int .u64 n, .int .i64 part] w fun e w' => e = .returned (.int .i64 (nodeAt N F a n part)) ∧ Kept (fun _ => False) w w' := by
  have lt1 := hl.t1
  have lt2 := hl.t2
  have ls1 := hl.s1
  have ls2 := hl.s2
  have ln1 := hl.n1
  have ln2 := hl.n2
  have lc1 := hl.c1
  have lc2 := hl.c2
  have lr1 := hl.r1
  have lr2 := hl.r2
  have lf1 := hl.f1
  have lf2 := hl.f2
  have la1 := hd.a1
  have la2 := hd.a2
  have lb1 := hd.b1
  have lb2 := hd.b2
  have ld1 := hd.d1
  have ld2 := hd.d2
  have hp := mul_bd (n - 1) F 4096 32 (by omega) (by omega) (by omega) (by omega)
  have hp1 := hp.1
  have hp2 : (n - 1) * F ≤ 131072 := hp.2
  clear hp hl
  go_enter Try.func47, Try.ntmps47
  go_wp2_with (go_at_call 61; refine (numbered_yes n N h1 h2 (by omega) _).mono ?_; rintro e w1 ⟨rfl, rfl⟩)
  have hN0 := Blk.new w [.int .i64 T, .int .i64 S, .int .i64 N, .int .i64 C, .int .i64 R, .int .i64 F, .int .u64 K, .int .i64 a, .int .i64 b, .int .i64 d] 29
  have x0 := hN0.cell (i := 0) rfl
  have x1 := hN0.cell (i := 1) rfl
  have x2 := hN0.cell (i := 2) rfl
  have x3 := hN0.cell (i := 3) rfl
  have x4 := hN0.cell (i := 4) rfl
  have x5 := hN0.cell (i := 5) rfl
  have x6 := hN0.cell (i := 6) rfl
  have x7 := hN0.cell (i := 7) rfl
  have x8 := hN0.cell (i := 8) rfl
  have x9 := hN0.cell (i := 9) rfl
  have hr : w.heap.size < (w.alloc (.cells #[.int .i64 T, .int .i64 S, .int .i64 N, .int .i64 C, .int .i64 R, .int .i64 F, .int .u64 K, .int .i64 a, .int .i64 b, .int .i64 d] 29)).heap.size := hN0.lt
  have HK := Lib.hid ((Kept.refl (fun _ => False) w).alloc (.cells #[.int .i64 T, .int .i64 S, .int .i64 N, .int .i64 C, .int .i64 R, .int .i64 F, .int .u64 K, .int .i64 a, .int .i64 b, .int .i64 d] 29))
  clear hN0
  generalize w.alloc (.cells #[.int .i64 T, .int .i64 S, .int .i64 N, .int .i64 C, .int .i64 R, .int .i64 F, .int .u64 K, .int .i64 a, .int .i64 b, .int .i64 d] 29) = W at *
  generalize w.heap.size = r at *
  have e1 : IntKind.u64.wrap (n - 1) = n - 1 := IntWalk.u64_in _ (by omega)
  have e2 : IntKind.i64.wrap (n - 1) = n - 1 := IntWalk.i64_in _ (by omega)
  go_region_held3 (fun w' => Kept (fun _ => False) W w' ∧ w'.cell? ⟨r, 0, none⟩ = some (.int .i64 T) ∧ w'.cell? ⟨r, 1, none⟩ = some (.int .i64 S) ∧ w'.cell? ⟨r, 2, none⟩ = some (.int .i64 N) ∧ w'.cell? ⟨r, 3, none⟩ = some (.int .i64 C) ∧ w'.cell? ⟨r, 4, none⟩ = some (.int .i64 R) ∧ w'.cell? ⟨r, 5, none⟩ = some (.int .i64 F) ∧ w'.cell? ⟨r, 6, none⟩ = some (.int .u64 K) ∧ w'.cell? ⟨r, 7, none⟩ = some (.int .i64 a) ∧ w'.cell? ⟨r, 8, none⟩ = some (.int .i64 b) ∧ w'.cell? ⟨r, 9, none⟩ = some (.int .i64 d))
    (first | exact ⟨(Kept.refl _ _).drew, x0, x1, x2, x3, x4, x5, x6, x7, x8, x9⟩ | exact keep10 (by assumption) hr (by assumption) | exact keep10 (Kept.ofDrew (by assumption)) hr (by assumption))
    (first | (go_at_call 45; refine (nodeCells_any T S N C R F K a b d (n - 1) (by omega) (by omega) hp1 (by omega) _).mono ?_; rintro e w9 ⟨rfl, hK9⟩))
  go_wp2
  go_ret
  exact ⟨ret_int (by rw [IntWalk.i64_in (a + ((n - 1) * F + (n - 1) * 4)) (by omega), IntWalk.i64_in _ (by omega)]; unfold nodeAt; rw [if_pos ⟨h1, h2⟩]), HK.out.trans hK9.ofDrew (fun _ _ h => h)⟩

set_option maxHeartbeats 400000 in
theorem node_no (T S N C R F K a b d n part : Int) (hl : Lim T S N C R F) (h1 : n < 1 ∨ N < n) (w : World) :
    Calls Try.prog 47 #[.agg #[.int .i64 T, .int .i64 S, .int .i64 N, .int .i64 C, .int .i64 R, .int .i64 F, .int .u64 K, .int .i64 a, .int .i64 b, .int .i64 d], .int .u64 n, .int .i64 part] w fun e w' => e = .returned (.int .i64 (nodeAt N F a n part)) ∧ Kept (fun _ => False) w w' := by
  have ln1 := hl.n1
  have ln2 := hl.n2
  go_enter Try.func47, Try.ntmps47
  go_wp2_with (go_at_call 61; refine (numbered_no n N h1 (by omega) (by omega) _).mono ?_; rintro e w1 ⟨rfl, rfl⟩)
  go_ret
  exact ⟨ret_int (by unfold nodeAt; rw [if_neg (by omega)]), (Kept.refl _ _).alloc _⟩

theorem node_any (T S N C R F K a b d n part : Int) (hl : Lim T S N C R F) (hd : Reach3 a b d) (h3 : 0 ≤ part) (h4 : part ≤ 1000) (w : World) :
    Calls Try.prog 47 #[.agg #[.int .i64 T, .int .i64 S, .int .i64 N, .int .i64 C, .int .i64 R, .int .i64 F, .int .u64 K, .int .i64 a, .int .i64 b, .int .i64 d], .int .u64 n, .int .i64 part] w fun e w' => e = .returned (.int .i64 (nodeAt N F a n part)) ∧ Kept (fun _ => False) w w' := by
  by_cases h : 1 ≤ n ∧ n ≤ N
  · exact node_yes T S N C R F K a b d n part hl hd h.1 h.2 h3 h4 w
  · exact node_no T S N C R F K a b d n part hl (by omega) w

set_option maxHeartbeats 400000 in
theorem high_any (T S N C R F K a b d n : Int) (hl : Lim T S N C R F) (hd : Reach3 a b d) (w : World) :
    Calls Try.prog 37 #[.agg #[.int .i64 T, .int .i64 S, .int .i64 N, .int .i64 C, .int .i64 R, .int .i64 F, .int .u64 K, .int .i64 a, .int .i64 b, .int .i64 d], .int .u64 n] w fun e w' => e = .returned (.int .i64 (nodeAt N F a n 2)) ∧ Kept (fun _ => False) w w' := by
  go_enter Try.func37, Try.ntmps37
  go_wp2_with (go_at_call 47; refine (node_any T S N C R F K a b d n 2 hl hd (by omega) (by omega) _).mono ?_; rintro e w1 ⟨rfl, hK1⟩)
  go_ret
  exact ⟨rfl, ((Kept.refl _ _).alloc _).trans hK1 (fun _ _ h => h)⟩

set_option linter.unusedVariables false

set_option maxHeartbeats 400000 in
theorem config_any (T S N C R F K a b d : Int) (w : World) :
    Calls Try.prog 40 #[.agg #[.int .i64 T, .int .i64 S, .int .i64 N, .int .i64 C, .int .i64 R, .int .i64 F, .int .u64 K, .int .i64 a, .int .i64 b, .int .i64 d]] w fun e w' => e = .returned (.agg #[.int .i64 T, .int .i64 S, .int .i64 N, .int .i64 C, .int .i64 R, .int .i64 F, .int .u64 K]) ∧ Kept (fun _ => False) w w' := by
  go_enter Try.func40, Try.ntmps40
  go_wp2
  refine bodyPost_ret (v := .agg #[.int .i64 T, .int .i64 S, .int .i64 N, .int .i64 C, .int .i64 R, .int .i64 F, .int .u64 K]) (by simp [results, Try.results40, go_sem]) rfl ⟨rfl, ((Kept.refl _ _).alloc _).alloc _⟩

set_option maxHeartbeats 400000 in
theorem refA_any (T S N C R F K : Int) (hl : Lim T S N C R F) (w : World) :
    Calls Try.prog 9 #[.agg #[.int .i64 T, .int .i64 S, .int .i64 N, .int .i64 C, .int .i64 R, .int .i64 F, .int .u64 K]] w fun e w' => e = .returned (.int .i64 (firstNode T S)) ∧ Kept (fun _ => False) w w' := by
  have lt1 := hl.t1
  have lt2 := hl.t2
  have ls1 := hl.s1
  have ls2 := hl.s2
  have ln1 := hl.n1
  have ln2 := hl.n2
  have lc1 := hl.c1
  have lc2 := hl.c2
  have lr1 := hl.r1
  have lr2 := hl.r2
  have lf1 := hl.f1
  have lf2 := hl.f2
  have ts := hl.ts
  have ts1 := ts.1
  have ts2 := ts.2
  clear ts
  clear hl
  go_enter Try.func9, Try.ntmps9
  go_wp2
  go_ret
  exact ⟨ret_int (by unfold firstNode; rfl), (Kept.refl _ _).alloc _⟩

set_option maxHeartbeats 400000 in
theorem refB_any (T S N C R F K : Int) (hl : Lim T S N C R F) (w : World) :
    Calls Try.prog 48 #[.agg #[.int .i64 T, .int .i64 S, .int .i64 N, .int .i64 C, .int .i64 R, .int .i64 F, .int .u64 K]] w fun e w' => e = .returned (.int .i64 (firstChain T S N F)) ∧ Kept (fun _ => False) w w' := by
  have lt1 := hl.t1
  have lt2 := hl.t2
  have ls1 := hl.s1
  have ls2 := hl.s2
  have ln1 := hl.n1
  have ln2 := hl.n2
  have lc1 := hl.c1
  have lc2 := hl.c2
  have lr1 := hl.r1
  have lr2 := hl.r2
  have lf1 := hl.f1
  have lf2 := hl.f2
  have nf := hl.nf
  have nf1 := nf.1
  have nf2 := nf.2
  have nf4 := nf4 N F
  clear nf
  have hrc := hl.reach
  have k1 := hrc.a1
  have k2 := hrc.a2
  have k3 := hrc.b1
  have k4 := hrc.b2
  have k5 := hrc.d1
  have k6 := hrc.d2
  clear hrc
  go_enter Try.func48, Try.ntmps48
  go_wp2
  have hN0 := Blk.new w [.int .i64 T, .int .i64 S, .int .i64 N, .int .i64 C, .int .i64 R, .int .i64 F, .int .u64 K] 25
  have x0 := hN0.cell (i := 0) rfl
  have x1 := hN0.cell (i := 1) rfl
  have x2 := hN0.cell (i := 2) rfl
  have x3 := hN0.cell (i := 3) rfl
  have x4 := hN0.cell (i := 4) rfl
  have x5 := hN0.cell (i := 5) rfl
  have x6 := hN0.cell (i := 6) rfl
  have hr : w.heap.size < (w.alloc (.cells #[.int .i64 T, .int .i64 S, .int .i64 N, .int .i64 C, .int .i64 R, .int .i64 F, .int .u64 K] 25)).heap.size := hN0.lt
  have HK := Lib.hid ((Kept.refl (fun _ => False) w).alloc (.cells #[.int .i64 T, .int .i64 S, .int .i64 N, .int .i64 C, .int .i64 R, .int .i64 F, .int .u64 K] 25))
  clear hN0
  generalize w.alloc (.cells #[.int .i64 T, .int .i64 S, .int .i64 N, .int .i64 C, .int .i64 R, .int .i64 F, .int .u64 K] 25) = W at *
  generalize w.heap.size = r at *
  go_region_held3 (fun w' => Kept (fun _ => False) W w' ∧ w'.cell? ⟨r, 0, none⟩ = some (.int .i64 T) ∧ w'.cell? ⟨r, 1, none⟩ = some (.int .i64 S) ∧ w'.cell? ⟨r, 2, none⟩ = some (.int .i64 N) ∧ w'.cell? ⟨r, 3, none⟩ = some (.int .i64 C) ∧ w'.cell? ⟨r, 4, none⟩ = some (.int .i64 R) ∧ w'.cell? ⟨r, 5, none⟩ = some (.int .i64 F) ∧ w'.cell? ⟨r, 6, none⟩ = some (.int .u64 K))
    (first | exact ⟨(Kept.refl _ _).drew, x0, x1, x2, x3, x4, x5, x6⟩ | exact keep7 (by assumption) hr (by assumption) | exact keep7 (Kept.ofDrew (by assumption)) hr (by assumption))
    (first | (go_at_call 9; refine (refA_any T S N C R F K hl _).mono ?_; rintro e w9 ⟨rfl, hK9⟩))
  go_wp2
  go_ret
  exact ⟨ret_int (by unfold firstChain at *; rw [IntWalk.i64_in (F + 4) (by omega), nf4, IntWalk.i64_in (N * F + N * 4) (by omega), IntWalk.i64_in _ (by omega)]), HK.out.trans hK9.ofDrew (fun _ _ h => h)⟩

set_option maxHeartbeats 400000 in
theorem refC_any (T S N C R F K : Int) (hl : Lim T S N C R F) (w : World) :
    Calls Try.prog 38 #[.agg #[.int .i64 T, .int .i64 S, .int .i64 N, .int .i64 C, .int .i64 R, .int .i64 F, .int .u64 K]] w fun e w' => e = .returned (.int .i64 (firstRecord T S N C F)) ∧ Kept (fun _ => False) w w' := by
  have lt1 := hl.t1
  have lt2 := hl.t2
  have ls1 := hl.s1
  have ls2 := hl.s2
  have ln1 := hl.n1
  have ln2 := hl.n2
  have lc1 := hl.c1
  have lc2 := hl.c2
  have lr1 := hl.r1
  have lr2 := hl.r2
  have lf1 := hl.f1
  have lf2 := hl.f2
  have nf := hl.nf
  have nf1 := nf.1
  have nf2 := nf.2
  have nf4 := nf4 N F
  clear nf
  have hrc := hl.reach
  have k1 := hrc.a1
  have k2 := hrc.a2
  have k3 := hrc.b1
  have k4 := hrc.b2
  have k5 := hrc.d1
  have k6 := hrc.d2
  clear hrc
  go_enter Try.func38, Try.ntmps38
  go_wp2
  have hN0 := Blk.new w [.int .i64 T, .int .i64 S, .int .i64 N, .int .i64 C, .int .i64 R, .int .i64 F, .int .u64 K] 25
  have x0 := hN0.cell (i := 0) rfl
  have x1 := hN0.cell (i := 1) rfl
  have x2 := hN0.cell (i := 2) rfl
  have x3 := hN0.cell (i := 3) rfl
  have x4 := hN0.cell (i := 4) rfl
  have x5 := hN0.cell (i := 5) rfl
  have x6 := hN0.cell (i := 6) rfl
  have hr : w.heap.size < (w.alloc (.cells #[.int .i64 T, .int .i64 S, .int .i64 N, .int .i64 C, .int .i64 R, .int .i64 F, .int .u64 K] 25)).heap.size := hN0.lt
  have HK := Lib.hid ((Kept.refl (fun _ => False) w).alloc (.cells #[.int .i64 T, .int .i64 S, .int .i64 N, .int .i64 C, .int .i64 R, .int .i64 F, .int .u64 K] 25))
  clear hN0
  generalize w.alloc (.cells #[.int .i64 T, .int .i64 S, .int .i64 N, .int .i64 C, .int .i64 R, .int .i64 F, .int .u64 K] 25) = W at *
  generalize w.heap.size = r at *
  go_region_held3 (fun w' => Kept (fun _ => False) W w' ∧ w'.cell? ⟨r, 0, none⟩ = some (.int .i64 T) ∧ w'.cell? ⟨r, 1, none⟩ = some (.int .i64 S) ∧ w'.cell? ⟨r, 2, none⟩ = some (.int .i64 N) ∧ w'.cell? ⟨r, 3, none⟩ = some (.int .i64 C) ∧ w'.cell? ⟨r, 4, none⟩ = some (.int .i64 R) ∧ w'.cell? ⟨r, 5, none⟩ = some (.int .i64 F) ∧ w'.cell? ⟨r, 6, none⟩ = some (.int .u64 K))
    (first | exact ⟨(Kept.refl _ _).drew, x0, x1, x2, x3, x4, x5, x6⟩ | exact keep7 (by assumption) hr (by assumption) | exact keep7 (Kept.ofDrew (by assumption)) hr (by assumption))
    (first | (go_at_call 48; refine (refB_any T S N C R F K hl _).mono ?_; rintro e w9 ⟨rfl, hK9⟩))
  go_wp2
  go_ret
  exact ⟨ret_int (by unfold firstRecord at *; rw [IntWalk.i64_in _ (by omega)]), HK.out.trans hK9.ofDrew (fun _ _ h => h)⟩

set_option maxHeartbeats 400000 in
theorem refCells_any (T S N C R F K : Int) (hl : Lim T S N C R F) (w : World) :
    Calls Try.prog 20 #[.agg #[.int .i64 T, .int .i64 S, .int .i64 N, .int .i64 C, .int .i64 R, .int .i64 F, .int .u64 K]] w fun e w' => e = .returned (.int .i64 (allCells T S N C R F)) ∧ Kept (fun _ => False) w w' := by
  have lt1 := hl.t1
  have lt2 := hl.t2
  have ls1 := hl.s1
  have ls2 := hl.s2
  have ln1 := hl.n1
  have ln2 := hl.n2
  have lc1 := hl.c1
  have lc2 := hl.c2
  have lr1 := hl.r1
  have lr2 := hl.r2
  have lf1 := hl.f1
  have lf2 := hl.f2
  have nf := hl.nf
  have nf1 := nf.1
  have nf2 := nf.2
  have nf4 := nf4 N F
  clear nf
  have hrc := hl.reach
  have k1 := hrc.a1
  have k2 := hrc.a2
  have k3 := hrc.b1
  have k4 := hrc.b2
  have k5 := hrc.d1
  have k6 := hrc.d2
  clear hrc
  go_enter Try.func20, Try.ntmps20
  go_wp2
  have hN0 := Blk.new w [.int .i64 T, .int .i64 S, .int .i64 N, .int .i64 C, .int .i64 R, .int .i64 F, .int .u64 K] 25
  have x0 := hN0.cell (i := 0) rfl
  have x1 := hN0.cell (i := 1) rfl
  have x2 := hN0.cell (i := 2) rfl
  have x3 := hN0.cell (i := 3) rfl
  have x4 := hN0.cell (i := 4) rfl
  have x5 := hN0.cell (i := 5) rfl
  have x6 := hN0.cell (i := 6) rfl
  have hr : w.heap.size < (w.alloc (.cells #[.int .i64 T, .int .i64 S, .int .i64 N, .int .i64 C, .int .i64 R, .int .i64 F, .int .u64 K] 25)).heap.size := hN0.lt
  have HK := Lib.hid ((Kept.refl (fun _ => False) w).alloc (.cells #[.int .i64 T, .int .i64 S, .int .i64 N, .int .i64 C, .int .i64 R, .int .i64 F, .int .u64 K] 25))
  clear hN0
  generalize w.alloc (.cells #[.int .i64 T, .int .i64 S, .int .i64 N, .int .i64 C, .int .i64 R, .int .i64 F, .int .u64 K] 25) = W at *
  generalize w.heap.size = r at *
  go_region_held3 (fun w' => Kept (fun _ => False) W w' ∧ w'.cell? ⟨r, 0, none⟩ = some (.int .i64 T) ∧ w'.cell? ⟨r, 1, none⟩ = some (.int .i64 S) ∧ w'.cell? ⟨r, 2, none⟩ = some (.int .i64 N) ∧ w'.cell? ⟨r, 3, none⟩ = some (.int .i64 C) ∧ w'.cell? ⟨r, 4, none⟩ = some (.int .i64 R) ∧ w'.cell? ⟨r, 5, none⟩ = some (.int .i64 F) ∧ w'.cell? ⟨r, 6, none⟩ = some (.int .u64 K))
    (first | exact ⟨(Kept.refl _ _).drew, x0, x1, x2, x3, x4, x5, x6⟩ | exact keep7 (by assumption) hr (by assumption) | exact keep7 (Kept.ofDrew (by assumption)) hr (by assumption))
    (first | (go_at_call 38; refine (refC_any T S N C R F K hl _).mono ?_; rintro e w9 ⟨rfl, hK9⟩))
  go_wp2
  go_ret
  exact ⟨ret_int (by unfold allCells; rw [IntWalk.i64_in (3 * R) (by omega), IntWalk.i64_in _ (by omega), Int.mul_comm 3 R]), HK.out.trans hK9.ofDrew (fun _ _ h => h)⟩

set_option maxHeartbeats 400000 in
theorem valid_yes (T S N C R F K : Int) (hl : Lim T S N C R F) (hk1 : 1 ≤ K) (hk2 : K ≤ 1099511627776) (w : World) :
    Calls Try.prog 44 #[.agg #[.int .i64 T, .int .i64 S, .int .i64 N, .int .i64 C, .int .i64 R, .int .i64 F, .int .u64 K]] w fun e w' => e = .returned (.bool true) ∧ Kept (fun _ => False) w w' := by
  have lt1 := hl.t1
  have lt2 := hl.t2
  have ls1 := hl.s1
  have ls2 := hl.s2
  have ln1 := hl.n1
  have ln2 := hl.n2
  have lc1 := hl.c1
  have lc2 := hl.c2
  have lr1 := hl.r1
  have lr2 := hl.r2
  have lf1 := hl.f1
  have lf2 := hl.f2
  go_enter Try.func44, Try.ntmps44
  go_wp2_with (first | (go_at_call 49; with_reducible refine (between_yes _ _ _ (by omega) (by omega) _).mono ?_; rintro e w1 ⟨rfl, rfl⟩) | (go_at_call 49; with_reducible refine (between_no1 _ _ _ (by omega) _).mono ?_; rintro e w1 ⟨rfl, rfl⟩) | (go_at_call 49; with_reducible refine (between_no2 _ _ _ (by omega) (by omega) _).mono ?_; rintro e w1 ⟨rfl, rfl⟩))
  go_ret
  exact ⟨rfl, (Kept.refl _ _).alloc _⟩

end Go.Proofs.Ytddjggckmmdicaa
