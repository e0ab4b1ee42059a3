/-
  What Config, Valid and New of package layout answer, and the functions of its reference: contracts for every configuration. Condition: where a size is asked for, a size within its limits.
-/
import Derived.Test.YtfbfhlolnooipaaLayWalks
namespace Go.Proofs.Ytfbfhlolnooipaa
open Go.RowKit Go.Deep
set_option linter.unusedVariables false

set_option maxHeartbeats 400000 in
theorem config_any (T S N C R F K a b d : Int) (w : World) :
    Calls Try.prog 11 #[.agg #[.int .i64 T, .int .i64 S, .int .i64 N, .int .i64 C, .int .i64 R, .int .i64 F, .int .u64 K, .int .i64 a, .int .i64 b, .int .i64 d]] w fun e w' => e = .returned (.agg #[.int .i64 T, .int .i64 S, .int .i64 N, .int .i64 C, .int .i64 R, .int .i64 F, .int .u64 K]) ∧ Kept (fun _ => False) w w' := by
  go_enter Try.func11, Try.ntmps11
  go_wp2
  refine bodyPost_ret (v := .agg #[.int .i64 T, .int .i64 S, .int .i64 N, .int .i64 C, .int .i64 R, .int .i64 F, .int .u64 K]) (by simp [results, Try.results11, go_sem]) rfl ⟨rfl, ((Kept.refl _ _).alloc _).alloc _⟩

set_option maxHeartbeats 400000 in
theorem refA_any (T S N C R F K : Int) (hl : Lim T S N C R F) (w : World) :
    Calls Try.prog 50 #[.agg #[.int .i64 T, .int .i64 S, .int .i64 N, .int .i64 C, .int .i64 R, .int .i64 F, .int .u64 K]] w fun e w' => e = .returned (.int .i64 (firstNode T S)) ∧ Kept (fun _ => False) w w' := by
  have lt1 := hl.t1
  have lt2 := hl.t2
  have ls1 := hl.s1
  have ls2 := hl.s2
  have ln1 := hl.n1
  have ln2 := hl.n2
  have lc1 := hl.c1
  have lc2 := hl.c2
  have lr1 := hl.r1
  have lr2 := hl.r2
  have lf1 := hl.f1
  have lf2 := hl.f2
  have ts := hl.ts
  have ts1 := ts.1
  have ts2 := ts.2
  clear ts
  clear hl
  go_enter Try.func50, Try.ntmps50
  go_wp2
  go_ret
  exact ⟨ret_int (by unfold firstNode; rfl), (Kept.refl _ _).alloc _⟩

set_option maxHeartbeats 400000 in
theorem refB_any (T S N C R F K : Int) (hl : Lim T S N C R F) (w : World) :
    Calls Try.prog 52 #[.agg #[.int .i64 T, .int .i64 S, .int .i64 N, .int .i64 C, .int .i64 R, .int .i64 F, .int .u64 K]] w fun e w' => e = .returned (.int .i64 (firstChain T S N F)) ∧ Kept (fun _ => False) w w' := by
  have lt1 := hl.t1
  have lt2 := hl.t2
  have ls1 := hl.s1
  have ls2 := hl.s2
  have ln1 := hl.n1
  have ln2 := hl.n2
  have lc1 := hl.c1
  have lc2 := hl.c2
  have lr1 := hl.r1
  have lr2 := hl.r2
  have lf1 := hl.f1
  have lf2 := hl.f2
  have nf := hl.nf
  have nf1 := nf.1
  have nf2 := nf.2
  have nf4 := nf4 N F
  clear nf
  have hrc := hl.reach
  have k1 := hrc.a1
  have k2 := hrc.a2
  have k3 := hrc.b1
  have k4 := hrc.b2
  have k5 := hrc.d1
  have k6 := hrc.d2
  clear hrc
  go_enter Try.func52, Try.ntmps52
  go_wp2
  have hN0 := Blk.new w [.int .i64 T, .int .i64 S, .int .i64 N, .int .i64 C, .int .i64 R, .int .i64 F, .int .u64 K] 24
  have x0 := hN0.cell (i := 0) rfl
  have x1 := hN0.cell (i := 1) rfl
  have x2 := hN0.cell (i := 2) rfl
  have x3 := hN0.cell (i := 3) rfl
  have x4 := hN0.cell (i := 4) rfl
  have x5 := hN0.cell (i := 5) rfl
  have x6 := hN0.cell (i := 6) rfl
  have hr : w.heap.size < (w.alloc (.cells #[.int .i64 T, .int .i64 S, .int .i64 N, .int .i64 C, .int .i64 R, .int .i64 F, .int .u64 K] 24)).heap.size := hN0.lt
  have HK := Lib.hid ((Kept.refl (fun _ => False) w).alloc (.cells #[.int .i64 T, .int .i64 S, .int .i64 N, .int .i64 C, .int .i64 R, .int .i64 F, .int .u64 K] 24))
  clear hN0
  generalize w.alloc (.cells #[.int .i64 T, .int .i64 S, .int .i64 N, .int .i64 C, .int .i64 R, .int .i64 F, .int .u64 K] 24) = W at *
  generalize w.heap.size = r at *
  go_region_held3 (fun w' => Kept (fun _ => False) W w' ∧ w'.cell? ⟨r, 0, none⟩ = some (.int .i64 T) ∧ w'.cell? ⟨r, 1, none⟩ = some (.int .i64 S) ∧ w'.cell? ⟨r, 2, none⟩ = some (.int .i64 N) ∧ w'.cell? ⟨r, 3, none⟩ = some (.int .i64 C) ∧ w'.cell? ⟨r, 4, none⟩ = some (.int .i64 R) ∧ w'.cell? ⟨r, 5, none⟩ = some (.int .i64 F) ∧ w'.cell? ⟨r, 6, none⟩ = some (.int .u64 K))
    (first | exact ⟨(Kept.refl _ _).drew, x0, x1, x2, x3, x4, x5, x6⟩ | exact keep7 (by assumption) hr (by assumption) | exact keep7 (Kept.ofDrew (by assumption)) hr (by assumption))
    (first | (go_at_call 50; refine (refA_any T S N C R F K hl _).mono ?_; rintro e w9 ⟨rfl, hK9⟩))
  go_wp2
  go_ret
  exact ⟨ret_int (by unfold firstChain at *; rw [IntWalk.i64_in (F + 4) (by omega), nf4, IntWalk.i64_in (N * F + N * 4) (by omega), IntWalk.i64_in _ (by omega)]), HK.out.trans hK9.ofDrew (fun _ _ h => h)⟩

set_option maxHeartbeats 400000 in
theorem refC_any (T S N C R F K : Int) (hl : Lim T S N C R F) (w : World) :
    Calls Try.prog 48 #[.agg #[.int .i64 T, .int .i64 S, .int .i64 N, .int .i64 C, .int .i64 R, .int .i64 F, .int .u64 K]] w fun e w' => e = .returned (.int .i64 (firstRecord T S N C F)) ∧ Kept (fun _ => False) w w' := by
  have lt1 := hl.t1
  have lt2 := hl.t2
  have ls1 := hl.s1
  have ls2 := hl.s2
  have ln1 := hl.n1
  have ln2 := hl.n2
  have lc1 := hl.c1
  have lc2 := hl.c2
  have lr1 := hl.r1
  have lr2 := hl.r2
  have lf1 := hl.f1
  have lf2 := hl.f2
  have nf := hl.nf
  have nf1 := nf.1
  have nf2 := nf.2
  have nf4 := nf4 N F
  clear nf
  have hrc := hl.reach
  have k1 := hrc.a1
  have k2 := hrc.a2
  have k3 := hrc.b1
  have k4 := hrc.b2
  have k5 := hrc.d1
  have k6 := hrc.d2
  clear hrc
  go_enter Try.func48, Try.ntmps48
  go_wp2
  have hN0 := Blk.new w [.int .i64 T, .int .i64 S, .int .i64 N, .int .i64 C, .int .i64 R, .int .i64 F, .int .u64 K] 24
  have x0 := hN0.cell (i := 0) rfl
  have x1 := hN0.cell (i := 1) rfl
  have x2 := hN0.cell (i := 2) rfl
  have x3 := hN0.cell (i := 3) rfl
  have x4 := hN0.cell (i := 4) rfl
  have x5 := hN0.cell (i := 5) rfl
  have x6 := hN0.cell (i := 6) rfl
  have hr : w.heap.size < (w.alloc (.cells #[.int .i64 T, .int .i64 S, .int .i64 N, .int .i64 C, .int .i64 R, .int .i64 F, .int .u64 K] 24)).heap.size := hN0.lt
  have HK := Lib.hid ((Kept.refl (fun _ => False) w).alloc (.cells #[.int .i64 T, .int .i64 S, .int .i64 N, .int .i64 C, .int .i64 R, .int .i64 F, .int .u64 K] 24))
  clear hN0
  generalize w.alloc (.cells #[.int .i64 T, .int .i64 S, .int .i64 N, .int .i64 C, .int .i64 R, .int .i64 F, .int .u64 K] 24) = W at *
  generalize w.heap.size = r at *
  go_region_held3 (fun w' => Kept (fun _ => False) W w' ∧ w'.cell? ⟨r, 0, none⟩ = some (.int .i64 T) ∧ w'.cell? ⟨r, 1, none⟩ = some (.int .i64 S) ∧ w'.cell? ⟨r, 2, none⟩ = some (.int .i64 N) ∧ w'.cell? ⟨r, 3, none⟩ = some (.int .i64 C) ∧ w'.cell? ⟨r, 4, none⟩ = some (.int .i64 R) ∧ w'.cell? ⟨r, 5, none⟩ = some (.int .i64 F) ∧ w'.cell? ⟨r, 6, none⟩ = some (.int .u64 K))
    (first | exact ⟨(Kept.refl _ _).drew, x0, x1, x2, x3, x4, x5, x6⟩ | exact keep7 (by assumption) hr (by assumption) | exact keep7 (Kept.ofDrew (by assumption)) hr (by assumption))
    (first | (go_at_call 52; refine (refB_any T S N C R F K hl _).mono ?_; rintro e w9 ⟨rfl, hK9⟩))
  go_wp2
  go_ret
  exact ⟨ret_int (by unfold firstRecord at *; rw [IntWalk.i64_in _ (by omega)]), HK.out.trans hK9.ofDrew (fun _ _ h => h)⟩

set_option maxHeartbeats 400000 in
theorem refCells_any (T S N C R F K : Int) (hl : Lim T S N C R F) (w : World) :
    Calls Try.prog 16 #[.agg #[.int .i64 T, .int .i64 S, .int .i64 N, .int .i64 C, .int .i64 R, .int .i64 F, .int .u64 K]] w fun e w' => e = .returned (.int .i64 (allCells T S N C R F)) ∧ Kept (fun _ => False) w w' := by
  have lt1 := hl.t1
  have lt2 := hl.t2
  have ls1 := hl.s1
  have ls2 := hl.s2
  have ln1 := hl.n1
  have ln2 := hl.n2
  have lc1 := hl.c1
  have lc2 := hl.c2
  have lr1 := hl.r1
  have lr2 := hl.r2
  have lf1 := hl.f1
  have lf2 := hl.f2
  have nf := hl.nf
  have nf1 := nf.1
  have nf2 := nf.2
  have nf4 := nf4 N F
  clear nf
  have hrc := hl.reach
  have k1 := hrc.a1
  have k2 := hrc.a2
  have k3 := hrc.b1
  have k4 := hrc.b2
  have k5 := hrc.d1
  have k6 := hrc.d2
  clear hrc
  go_enter Try.func16, Try.ntmps16
  go_wp2
  have hN0 := Blk.new w [.int .i64 T, .int .i64 S, .int .i64 N, .int .i64 C, .int .i64 R, .int .i64 F, .int .u64 K] 24
  have x0 := hN0.cell (i := 0) rfl
  have x1 := hN0.cell (i := 1) rfl
  have x2 := hN0.cell (i := 2) rfl
  have x3 := hN0.cell (i := 3) rfl
  have x4 := hN0.cell (i := 4) rfl
  have x5 := hN0.cell (i := 5) rfl
  have x6 := hN0.cell (i := 6) rfl
  have hr : w.heap.size < (w.alloc (.cells #[.int .i64 T, .int .i64 S, .int .i64 N, .int .i64 C, .int .i64 R, .int .i64 F, .int .u64 K] 24)).heap.size := hN0.lt
  have HK := Lib.hid ((Kept.refl (fun _ => False) w).alloc (.cells #[.int .i64 T, .int .i64 S, .int .i64 N, .int .i64 C, .int .i64 R, .int .i64 F, .int .u64 K] 24))
  clear hN0
  generalize w.alloc (.cells #[.int .i64 T, .int .i64 S, .int .i64 N, .int .i64 C, .int .i64 R, .int .i64 F, .int .u64 K] 24) = W at *
  generalize w.heap.size = r at *
  go_region_held3 (fun w' => Kept (fun _ => False) W w' ∧ w'.cell? ⟨r, 0, none⟩ = some (.int .i64 T) ∧ w'.cell? ⟨r, 1, none⟩ = some (.int .i64 S) ∧ w'.cell? ⟨r, 2, none⟩ = some (.int .i64 N) ∧ w'.cell? ⟨r, 3, none⟩ = some (.int .i64 C) ∧ w'.cell? ⟨r, 4, none⟩ = some (.int .i64 R) ∧ w'.cell? ⟨r, 5, none⟩ = some (.int .i64 F) ∧ w'.cell? ⟨r, 6, none⟩ = some (.int .u64 K))
    (first | exact ⟨(Kept.refl _ _).drew, x0, x1, x2, x3, x4, x5, x6⟩ | exact keep7 (by assumption) hr (by assumption) | exact keep7 (Kept.ofDrew (by assumption)) hr (by assumption))
    (first | (go_at_call 48; refine (refC_any T S N C R F K hl _).mono ?_; rintro e w9 ⟨rfl, hK9⟩))
  go_wp2
  go_ret
  exact ⟨ret_int (by unfold allCells; rw [IntWalk.i64_in (3 * R) (by omega), IntWalk.i64_in _ (by omega), Int.mul_comm 3 R]), HK.out.trans hK9.ofDrew (fun _ _ h => h)⟩

end Go.Proofs.Ytfbfhlolnooipaa
