/-
  The small configurations of layer 3's statements, their small check 'awake', and New of a configuration that is not valid. Condition: none.
-/
import Derived.Test.YtfbfhlolnooipaaLayStart
import Derived.Test.YtfbfhlolnooipaaLayValidNo
import Derived.StillTailTactics
namespace Go.Proofs.Ytfbfhlolnooipaa
open Go.RowKit Go.Deep
set_option linter.unusedVariables false
attribute [local go_sem ↓] Go.wp_at_zero Go.wp_at_succ

theorem mod_still (k n : Int) (w : World) (hn : 0 < n) (hn2 : n ≤ 9223372036854775807) :
    Calls Try.prog 39 #[.int .i64 k, .int .i64 n] w fun e w' => e = .returned (.int .i64 (k % n)) ∧ w' = w := (mod_any k n w hn hn2).mono fun _ _ h => ⟨h.1, h.2.symm⟩
set_option maxHeartbeats 1000000 in
theorem small_any (T S N C R F K : Int) (h0 : 0 ≤ K) (w : World) :
    Calls Try.prog 14 #[.agg #[.int .i64 T, .int .i64 S, .int .i64 N, .int .i64 C, .int .i64 R, .int .i64 F, .int .u64 K]] w fun e w' => e = .returned (.agg #[.int .i64 (1 + T % 6), .int .i64 (1 + S % 8), .int .i64 (1 + N % 12), .int .i64 (1 + C % 20), .int .i64 (1 + R % 20), .int .i64 (4 + F % 6), .int .u64 (1 + K % 1000)]) ∧ Kept (fun _ => False) w w' := by
  go_enter Try.func14, Try.ntmps14
  go_wp2_with fail
  have hC1 := (Blk.new w [.int .i64 T, .int .i64 S, .int .i64 N, .int .i64 C, .int .i64 R, .int .i64 F, .int .u64 K] 24).alloc (.cells #[.int .i64 0, .int .i64 0, .int .i64 0, .int .i64 0, .int .i64 0, .int .i64 0, .int .u64 0] 24)
  have hQ1 : Blk ((w.alloc (.cells #[.int .i64 T, .int .i64 S, .int .i64 N, .int .i64 C, .int .i64 R, .int .i64 F, .int .u64 K] 24)).alloc (.cells #[.int .i64 0, .int .i64 0, .int .i64 0, .int .i64 0, .int .i64 0, .int .i64 0, .int .u64 0] 24)) (w.heap.size + 1) 24 [.int .i64 0, .int .i64 0, .int .i64 0, .int .i64 0, .int .i64 0, .int .i64 0, .int .u64 0] := by have := Blk.new (w.alloc (.cells #[.int .i64 T, .int .i64 S, .int .i64 N, .int .i64 C, .int .i64 R, .int .i64 F, .int .u64 K] 24)) [.int .i64 0, .int .i64 0, .int .i64 0, .int .i64 0, .int .i64 0, .int .i64 0, .int .u64 0] 24; rwa [nblk_alloc] at this
  have HK := Lib.hid (((Kept.refl (fun _ => False) w).alloc (.cells #[.int .i64 T, .int .i64 S, .int .i64 N, .int .i64 C, .int .i64 R, .int .i64 F, .int .u64 K] 24)).alloc (.cells #[.int .i64 0, .int .i64 0, .int .i64 0, .int .i64 0, .int .i64 0, .int .i64 0, .int .u64 0] 24))
  have x0 := hC1.cell (i := 0) rfl
  have x1 := hC1.cell (i := 1) rfl
  have x2 := hC1.cell (i := 2) rfl
  have x3 := hC1.cell (i := 3) rfl
  have x4 := hC1.cell (i := 4) rfl
  have x5 := hC1.cell (i := 5) rfl
  have x6 := hC1.cell (i := 6) rfl
  have HQ1 := Lib.hid hQ1
  clear hC1 hQ1
  generalize (w.alloc (.cells #[.int .i64 T, .int .i64 S, .int .i64 N, .int .i64 C, .int .i64 R, .int .i64 F, .int .u64 K] 24)).alloc (.cells #[.int .i64 0, .int .i64 0, .int .i64 0, .int .i64 0, .int .i64 0, .int .i64 0, .int .u64 0] 24) = W at *
  generalize hrr : w.heap.size = r at *
  have HRR := Lib.hid hrr
  clear hrr
  have eT : IntKind.i64.wrap (1 + T % 6) = 1 + T % 6 := IntWalk.i64_in _ (by have := Int.emod_nonneg T (by omega : (6 : Int) ≠ 0); have := Int.emod_lt_of_pos T (by omega : (0 : Int) < 6); omega)
  have eS : IntKind.i64.wrap (1 + S % 8) = 1 + S % 8 := IntWalk.i64_in _ (by have := Int.emod_nonneg S (by omega : (8 : Int) ≠ 0); have := Int.emod_lt_of_pos S (by omega : (0 : Int) < 8); omega)
  have eN : IntKind.i64.wrap (1 + N % 12) = 1 + N % 12 := IntWalk.i64_in _ (by have := Int.emod_nonneg N (by omega : (12 : Int) ≠ 0); have := Int.emod_lt_of_pos N (by omega : (0 : Int) < 12); omega)
  have eC : IntKind.i64.wrap (1 + C % 20) = 1 + C % 20 := IntWalk.i64_in _ (by have := Int.emod_nonneg C (by omega : (20 : Int) ≠ 0); have := Int.emod_lt_of_pos C (by omega : (0 : Int) < 20); omega)
  have eR : IntKind.i64.wrap (1 + R % 20) = 1 + R % 20 := IntWalk.i64_in _ (by have := Int.emod_nonneg R (by omega : (20 : Int) ≠ 0); have := Int.emod_lt_of_pos R (by omega : (0 : Int) < 20); omega)
  have eF : IntKind.i64.wrap (4 + F % 6) = 4 + F % 6 := IntWalk.i64_in _ (by have := Int.emod_nonneg F (by omega : (6 : Int) ≠ 0); have := Int.emod_lt_of_pos F (by omega : (0 : Int) < 6); omega)
  have eK0 : K.tmod 1000 = K % 1000 := Int.tmod_eq_emod_of_nonneg h0
  have eK : IntKind.u64.wrap (1 + K % 1000) = 1 + K % 1000 := IntWalk.u64_in _ (by omega)
  have eK1 : IntKind.u64.wrap (K % 1000) = K % 1000 := IntWalk.u64_in _ (by omega)
  refine wp_region_still_tail 29 (by kernel_rfl) (by kernel_rfl) ?_
  simp only [List.take_succ_cons, List.take_zero, List.drop_succ_cons, List.drop_zero]
  repeat (first | still_step | still_call (mod_still _ _ _ (by omega) (by omega)))
  try refine wpStill_nil ?_
  clear x0 x1 x2 x3 x4 x5 x6
  change wpList _ _ _ _ _ W.drew
  have HQ2 : Hid (Blk W.drew (r + 1) 24 [.int .i64 0, .int .i64 0, .int .i64 0, .int .i64 0, .int .i64 0, .int .i64 0, .int .u64 0]) := Lib.hid HQ1.out
  have HK2 : Hid (Kept (fun _ => False) w W.drew) := Lib.hid HK.out.drew
  clear HQ1 HK
  generalize W.drew = W2 at *
  have q0 := HQ2.out.cell (i := 0) rfl
  have q1 := HQ2.out.cell (i := 1) rfl
  have q2 := HQ2.out.cell (i := 2) rfl
  have q3 := HQ2.out.cell (i := 3) rfl
  have q4 := HQ2.out.cell (i := 4) rfl
  have q5 := HQ2.out.cell (i := 5) rfl
  have q6 := HQ2.out.cell (i := 6) rfl
  have qf0 := HQ2.out.frozen 0
  have qf1 := HQ2.out.frozen 1
  have qf2 := HQ2.out.frozen 2
  have qf3 := HQ2.out.frozen 3
  have qf4 := HQ2.out.frozen 4
  have qf5 := HQ2.out.frozen 5
  have qf6 := HQ2.out.frozen 6
  go_wp2
  refine bodyPost_ret (v := .agg #[.int .i64 (1 + T % 6), .int .i64 (1 + S % 8), .int .i64 (1 + N % 12), .int .i64 (1 + C % 20), .int .i64 (1 + R % 20), .int .i64 (4 + F % 6), .int .u64 (1 + K % 1000)]) ?_ rfl ⟨rfl, ?_⟩
  · have hE := (((((((HQ2.out.set 0 (.int .i64 (1 + T % 6))).set 1 (.int .i64 (1 + S % 8))).set 2 (.int .i64 (1 + N % 12))).set 3 (.int .i64 (1 + C % 20))).set 4 (.int .i64 (1 + R % 20))).set 5 (.int .i64 (4 + F % 6))).set 6 (.int .u64 (1 + K % 1000)))
    clear q0 q1 q2 q3 q4 q5 q6 qf0 qf1 qf2 qf3 qf4 qf5 qf6
    have q0 := hE.cell (i := 0) rfl
    have q1 := hE.cell (i := 1) rfl
    have q2 := hE.cell (i := 2) rfl
    have q3 := hE.cell (i := 3) rfl
    have q4 := hE.cell (i := 4) rfl
    have q5 := hE.cell (i := 5) rfl
    have q6 := hE.cell (i := 6) rfl
    clear hE HQ2 HK2
    simp [results, Try.results14, go_sem, q0, q1, q2, q3, q4, q5, q6]
  · have hb : w.heap.size ≤ r + 1 := by have := HRR.out; omega
    exact ((((((HK2.out.setNew hb _ _).setNew hb _ _).setNew hb _ _).setNew hb _ _).setNew hb _ _).setNew hb _ _).setNew hb _ _

end Go.Proofs.Ytfbfhlolnooipaa
