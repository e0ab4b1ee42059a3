/-
  The small check 'awake' of layer 3's statements, and New and Start of any configuration. Condition: none (for Start's memory: a valid configuration).
-/
import Derived.Test.YtfbfhlolnooipaaLaySmall
namespace Go.Proofs.Ytfbfhlolnooipaa
open Go.RowKit Go.Deep
set_option linter.unusedVariables false

theorem lim_ex : Lim 2 1 3 2 2 4 := by constructor <;> omega
theorem reach_ex : Reach3 10 34 36 := by constructor <;> omega
theorem new_ex (w : World) : Calls Try.prog 9 #[.agg #[.int .i64 2, .int .i64 1, .int .i64 3, .int .i64 2, .int .i64 2, .int .i64 4, .int .u64 9]] w fun e w' => e = .returned (.tuple #[.agg #[.int .i64 2, .int .i64 1, .int .i64 3, .int .i64 2, .int .i64 2, .int .i64 4, .int .u64 9, .int .i64 10, .int .i64 34, .int .i64 36], .int .i64 0]) ∧ Kept (fun _ => False) w w' :=
  new_yes 2 1 3 2 2 4 9 lim_ex (by omega) (by omega) w
theorem snap_ex (w : World) : Calls Try.prog 25 #[.agg #[.int .i64 2, .int .i64 1, .int .i64 3, .int .i64 2, .int .i64 2, .int .i64 4, .int .u64 9, .int .i64 10, .int .i64 34, .int .i64 36], .int .i64 1, .int .i64 0] w fun e w' => e = .returned (.int .i64 9) ∧ Kept (fun _ => False) w w' :=
  snap_any 2 1 3 2 2 4 9 10 34 36 1 0 lim_ex w
theorem latch_ex (w : World) : Calls Try.prog 27 #[.agg #[.int .i64 2, .int .i64 1, .int .i64 3, .int .i64 2, .int .i64 2, .int .i64 4, .int .u64 9, .int .i64 10, .int .i64 34, .int .i64 36], .int .u64 1] w fun e w' => e = .returned (.int .i64 10) ∧ Kept (fun _ => False) w w' :=
  latch_any 2 1 3 2 2 4 9 10 34 36 1 lim_ex reach_ex w
theorem slot_ex (w : World) : Calls Try.prog 38 #[.agg #[.int .i64 2, .int .i64 1, .int .i64 3, .int .i64 2, .int .i64 2, .int .i64 4, .int .u64 9, .int .i64 10, .int .i64 34, .int .i64 36], .int .u64 1, .int .i64 3] w fun e w' => e = .returned (.int .i64 17) ∧ Kept (fun _ => False) w w' :=
  slot_any 2 1 3 2 2 4 9 10 34 36 1 3 lim_ex reach_ex w
theorem chain_ex (w : World) : Calls Try.prog 32 #[.agg #[.int .i64 2, .int .i64 1, .int .i64 3, .int .i64 2, .int .i64 2, .int .i64 4, .int .u64 9, .int .i64 10, .int .i64 34, .int .i64 36], .int .u64 1] w fun e w' => e = .returned (.int .i64 34) ∧ Kept (fun _ => False) w w' :=
  chain_any 2 1 3 2 2 4 9 10 34 36 1 lim_ex reach_ex w
set_option maxHeartbeats 1000000 in
theorem awake_any  (w : World) :
    Calls Try.prog 12 #[] w fun e w' => e = .returned (.bool true) ∧ Kept (fun _ => False) w w' := by
  go_enter Try.func12, Try.ntmps12
  go_wp2_with fail
  refine (new_ex _).mono ?_; rintro e w1 ⟨rfl, hK1⟩
  have HK := Lib.hid hK1
  clear hK1
  go_wp2_with fail
  have HL := Lib.hid (Blk.new w1 [.int .i64 2, .int .i64 1, .int .i64 3, .int .i64 2, .int .i64 2, .int .i64 4, .int .u64 9, .int .i64 10, .int .i64 34, .int .i64 36] 27)
  replace HK := Lib.hid (HK.out.alloc (.cells #[.int .i64 2, .int .i64 1, .int .i64 3, .int .i64 2, .int .i64 2, .int .i64 4, .int .u64 9, .int .i64 10, .int .i64 34, .int .i64 36] 27))
  generalize w1.alloc (.cells #[.int .i64 2, .int .i64 1, .int .i64 3, .int .i64 2, .int .i64 2, .int .i64 4, .int .u64 9, .int .i64 10, .int .i64 34, .int .i64 36] 27) = W1 at *
  generalize hss : w1.heap.size = s at *
  have HSS := Lib.hid hss
  clear hss
  have x0 := HL.out.cell (i := 0) rfl
  have x1 := HL.out.cell (i := 1) rfl
  have x2 := HL.out.cell (i := 2) rfl
  have x3 := HL.out.cell (i := 3) rfl
  have x4 := HL.out.cell (i := 4) rfl
  have x5 := HL.out.cell (i := 5) rfl
  have x6 := HL.out.cell (i := 6) rfl
  have x7 := HL.out.cell (i := 7) rfl
  have x8 := HL.out.cell (i := 8) rfl
  have x9 := HL.out.cell (i := 9) rfl
  refine (snap_ex _).mono ?_; rintro e w2 ⟨rfl, hk2⟩
  clear x0 x1 x2 x3 x4 x5 x6 x7 x8 x9
  have hB : Blk w2 s 27 [.int .i64 2, .int .i64 1, .int .i64 3, .int .i64 2, .int .i64 2, .int .i64 4, .int .u64 9, .int .i64 10, .int .i64 34, .int .i64 36] := hk2.blk HL.out id
  replace HL := Lib.hid hB
  clear hB
  have x0 := HL.out.cell (i := 0) rfl
  have x1 := HL.out.cell (i := 1) rfl
  have x2 := HL.out.cell (i := 2) rfl
  have x3 := HL.out.cell (i := 3) rfl
  have x4 := HL.out.cell (i := 4) rfl
  have x5 := HL.out.cell (i := 5) rfl
  have x6 := HL.out.cell (i := 6) rfl
  have x7 := HL.out.cell (i := 7) rfl
  have x8 := HL.out.cell (i := 8) rfl
  have x9 := HL.out.cell (i := 9) rfl
  replace HK : Hid (Kept (fun _ => False) w w2) := Lib.hid (HK.out.trans hk2 (fun _ _ h => h))
  clear hk2
  go_wp2_with fail
  refine (latch_ex _).mono ?_; rintro e w3 ⟨rfl, hk3⟩
  clear x0 x1 x2 x3 x4 x5 x6 x7 x8 x9
  have hB : Blk w3 s 27 [.int .i64 2, .int .i64 1, .int .i64 3, .int .i64 2, .int .i64 2, .int .i64 4, .int .u64 9, .int .i64 10, .int .i64 34, .int .i64 36] := hk3.blk HL.out id
  replace HL := Lib.hid hB
  clear hB
  have x0 := HL.out.cell (i := 0) rfl
  have x1 := HL.out.cell (i := 1) rfl
  have x2 := HL.out.cell (i := 2) rfl
  have x3 := HL.out.cell (i := 3) rfl
  have x4 := HL.out.cell (i := 4) rfl
  have x5 := HL.out.cell (i := 5) rfl
  have x6 := HL.out.cell (i := 6) rfl
  have x7 := HL.out.cell (i := 7) rfl
  have x8 := HL.out.cell (i := 8) rfl
  have x9 := HL.out.cell (i := 9) rfl
  replace HK : Hid (Kept (fun _ => False) w w3) := Lib.hid (HK.out.trans hk3 (fun _ _ h => h))
  clear hk3
  go_wp2_with fail
  refine (slot_ex _).mono ?_; rintro e w4 ⟨rfl, hk4⟩
  clear x0 x1 x2 x3 x4 x5 x6 x7 x8 x9
  have hB : Blk w4 s 27 [.int .i64 2, .int .i64 1, .int .i64 3, .int .i64 2, .int .i64 2, .int .i64 4, .int .u64 9, .int .i64 10, .int .i64 34, .int .i64 36] := hk4.blk HL.out id
  replace HL := Lib.hid hB
  clear hB
  have x0 := HL.out.cell (i := 0) rfl
  have x1 := HL.out.cell (i := 1) rfl
  have x2 := HL.out.cell (i := 2) rfl
  have x3 := HL.out.cell (i := 3) rfl
  have x4 := HL.out.cell (i := 4) rfl
  have x5 := HL.out.cell (i := 5) rfl
  have x6 := HL.out.cell (i := 6) rfl
  have x7 := HL.out.cell (i := 7) rfl
  have x8 := HL.out.cell (i := 8) rfl
  have x9 := HL.out.cell (i := 9) rfl
  replace HK : Hid (Kept (fun _ => False) w w4) := Lib.hid (HK.out.trans hk4 (fun _ _ h => h))
  clear hk4
  go_wp2_with fail
  refine (chain_ex _).mono ?_; rintro e w5 ⟨rfl, hk5⟩
  clear x0 x1 x2 x3 x4 x5 x6 x7 x8 x9
  have hB : Blk w5 s 27 [.int .i64 2, .int .i64 1, .int .i64 3, .int .i64 2, .int .i64 2, .int .i64 4, .int .u64 9, .int .i64 10, .int .i64 34, .int .i64 36] := hk5.blk HL.out id
  replace HL := Lib.hid hB
  clear hB
  have x0 := HL.out.cell (i := 0) rfl
  have x1 := HL.out.cell (i := 1) rfl
  have x2 := HL.out.cell (i := 2) rfl
  have x3 := HL.out.cell (i := 3) rfl
  have x4 := HL.out.cell (i := 4) rfl
  have x5 := HL.out.cell (i := 5) rfl
  have x6 := HL.out.cell (i := 6) rfl
  have x7 := HL.out.cell (i := 7) rfl
  have x8 := HL.out.cell (i := 8) rfl
  have x9 := HL.out.cell (i := 9) rfl
  replace HK : Hid (Kept (fun _ => False) w w5) := Lib.hid (HK.out.trans hk5 (fun _ _ h => h))
  clear hk5
  go_wp2
  go_ret
  exact ⟨rfl, HK.out⟩

set_option maxHeartbeats 1000000 in
theorem new_no (T S N C R F K : Int) (hng : ¬ Good T S N C R F K) (h0 : 0 ≤ K) (w : World) :
    Calls Try.prog 9 #[.agg #[.int .i64 T, .int .i64 S, .int .i64 N, .int .i64 C, .int .i64 R, .int .i64 F, .int .u64 K]] w fun e w' => e = .returned (.tuple #[.agg #[.int .i64 0, .int .i64 0, .int .i64 0, .int .i64 0, .int .i64 0, .int .i64 0, .int .u64 0, .int .i64 0, .int .i64 0, .int .i64 0], .int .i64 1]) ∧ Kept (fun _ => False) w w' := by
  go_enter Try.func9, Try.ntmps9
  go_wp2_with fail
  refine (valid_no T S N C R F K hng h0 _).mono ?_; rintro e w1 ⟨rfl, hK1⟩
  have hQ1 : Blk w1 (w.heap.size + 1) 27 [.int .i64 0, .int .i64 0, .int .i64 0, .int .i64 0, .int .i64 0, .int .i64 0, .int .u64 0, .int .i64 0, .int .i64 0, .int .i64 0] := hK1.blk (by have := Blk.new (w.alloc (.cells #[.int .i64 T, .int .i64 S, .int .i64 N, .int .i64 C, .int .i64 R, .int .i64 F, .int .u64 K] 24)) [.int .i64 0, .int .i64 0, .int .i64 0, .int .i64 0, .int .i64 0, .int .i64 0, .int .u64 0, .int .i64 0, .int .i64 0, .int .i64 0] 27; rwa [nblk_alloc] at this) id
  have HK1 := Lib.hid (((Kept.refl (fun _ => False) w).alloc _).alloc _ |>.trans hK1 (fun _ _ h => h))
  clear hK1
  have HQ1 := Lib.hid hQ1
  clear hQ1
  have q0 := HQ1.out.cell (i := 0) rfl
  have q1 := HQ1.out.cell (i := 1) rfl
  have q2 := HQ1.out.cell (i := 2) rfl
  have q3 := HQ1.out.cell (i := 3) rfl
  have q4 := HQ1.out.cell (i := 4) rfl
  have q5 := HQ1.out.cell (i := 5) rfl
  have q6 := HQ1.out.cell (i := 6) rfl
  have q7 := HQ1.out.cell (i := 7) rfl
  have q8 := HQ1.out.cell (i := 8) rfl
  have q9 := HQ1.out.cell (i := 9) rfl
  have qf0 := HQ1.out.frozen 0
  have qf1 := HQ1.out.frozen 1
  have qf2 := HQ1.out.frozen 2
  have qf3 := HQ1.out.frozen 3
  have qf4 := HQ1.out.frozen 4
  have qf5 := HQ1.out.frozen 5
  have qf6 := HQ1.out.frozen 6
  have qf7 := HQ1.out.frozen 7
  have qf8 := HQ1.out.frozen 8
  have qf9 := HQ1.out.frozen 9
  go_wp2
  refine bodyPost_ret (v := .tuple #[.agg #[.int .i64 0, .int .i64 0, .int .i64 0, .int .i64 0, .int .i64 0, .int .i64 0, .int .u64 0, .int .i64 0, .int .i64 0, .int .i64 0], .int .i64 1]) ?_ rfl ⟨rfl, ?_⟩
  · have hE := ((((((((((HQ1.out.set 0 (.int .i64 0)).set 1 (.int .i64 0)).set 2 (.int .i64 0)).set 3 (.int .i64 0)).set 4 (.int .i64 0)).set 5 (.int .i64 0)).set 6 (.int .u64 0)).set 7 (.int .i64 0)).set 8 (.int .i64 0)).set 9 (.int .i64 0))
    clear q0 q1 q2 q3 q4 q5 q6 q7 q8 q9 qf0 qf1 qf2 qf3 qf4 qf5 qf6 qf7 qf8 qf9
    have q0 := hE.cell (i := 0) rfl
    have q1 := hE.cell (i := 1) rfl
    have q2 := hE.cell (i := 2) rfl
    have q3 := hE.cell (i := 3) rfl
    have q4 := hE.cell (i := 4) rfl
    have q5 := hE.cell (i := 5) rfl
    have q6 := hE.cell (i := 6) rfl
    have q7 := hE.cell (i := 7) rfl
    have q8 := hE.cell (i := 8) rfl
    have q9 := hE.cell (i := 9) rfl
    clear hE HQ1 HK1
    simp [results, Try.results9, go_sem, q0, q1, q2, q3, q4, q5, q6, q7, q8, q9]
  · have hb : w.heap.size ≤ w.heap.size + 1 := Nat.le_succ _
    exact (((((((((HK1.out.setNew hb _ _).setNew hb _ _).setNew hb _ _).setNew hb _ _).setNew hb _ _).setNew hb _ _).setNew hb _ _).setNew hb _ _).setNew hb _ _).setNew hb _ _

end Go.Proofs.Ytfbfhlolnooipaa
