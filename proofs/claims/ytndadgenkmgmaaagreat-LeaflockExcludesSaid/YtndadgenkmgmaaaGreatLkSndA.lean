/-
  What counters, Chain and Refs of a view answer for a planted tree. Condition: the kit's small configurations.
-/
import Derived.Test.YtndadgenkmgmaaaGreatLkRef
import Derived.Test.YtndadgenkmgmaaaGreatLkAux
namespace Go.Proofs.YtndadgenkmgmaaaGreat
open Go.RowKit Go.Deep Plain
set_option linter.unusedVariables false

set_option maxRecDepth 100000 in
set_option maxHeartbeats 8000000 in
theorem vcounters_any (F : Nat) (h4 : 4 ≤ F) (h6 : F ≤ 6) (g n : Nat) (l : List Cel) (hl : l.length = n) (tot kk : Nat) (htot : cellAt l 4 = ((tot : Int), (⟨#[]⟩ : ByteArray), (0 : Int))) (h100 : tot ≤ 100) (hr : Rest F kk l) (hk100 : kk ≤ 100) (w : World) (hv : Blk w g 56 (flat3 l)) :
    Calls Tryz.prog 70 #[.agg #[.int .i64 1, .int .i64 2, .int .i64 100, .int .i64 100, .int .i64 200, .int .i64 (F : Int), .int .u64 1000, .slice (some ⟨g, 0, none⟩) n n]] w fun e w' => e = .returned (.bool true) ∧ Kept (fun _ => False) w w' := by
  have w1 : IntKind.u64.wrap 100 = 100 := by rfl
  have w2 : IntKind.u64.wrap 200 = 200 := by rfl
  have htI : ¬ (100 : Int) < (tot : Int) := by omega
  have hkI : ¬ (100 : Int) < (kk : Int) := by omega
  have f0 := field0 (0 : Int) 0 ⟨#[]⟩
  have f4 := field0 (tot : Int) 0 ⟨#[]⟩
  have f5 := field0 (kk : Int) 0 ⟨#[]⟩
  have HV0 := Lib.hid hv
  clear hv
  go_enter Tryz.func70, Tryz.ntmps70
  go_upto_region 1 with fail
  have hal := (Kept.refl (fun _ => False) w).alloc (.cells #[.int .i64 1, .int .i64 2, .int .i64 100, .int .i64 100, .int .i64 200, .int .i64 (F : Int), .int .u64 1000, .slice (some ⟨g, 0, none⟩) n n] 38)
  have HB := Lib.hid (Blk.new w [.int .i64 1, .int .i64 2, .int .i64 100, .int .i64 100, .int .i64 200, .int .i64 (F : Int), .int .u64 1000, .slice (some ⟨g, 0, none⟩) n n] 38)
  have HV := Lib.hid (hal.blk HV0.out (fun h => h))
  have HK := Lib.hid hal
  clear hal
  generalize w.alloc (.cells #[.int .i64 1, .int .i64 2, .int .i64 100, .int .i64 100, .int .i64 200, .int .i64 (F : Int), .int .u64 1000, .slice (some ⟨g, 0, none⟩) n n] 38) = W at *
  generalize hr0 : w.heap.size = r0 at *
  have HR0 := Lib.hid hr0
  clear hr0
  refine qregion (fun w' => Kept (fun _ => False) W w') (by kernel_rfl) (by kernel_rfl) (Kept.refl _ _).drew ?_
  refine qstep (o := ⟨some 5, _, _, _, _, _⟩) (v := ?_) (by rfl) (fun wq hSw => ?_) ?_
  rotate_left
  · (have hb9 := hSw.blk HB.out (fun h => h); have x0 := hb9.cell (i := 0) rfl; have x1 := hb9.cell (i := 1) rfl; have x2 := hb9.cell (i := 2) rfl; have x3 := hb9.cell (i := 3) rfl; have x4 := hb9.cell (i := 4) rfl; have x5 := hb9.cell (i := 5) rfl; have x6 := hb9.cell (i := 6) rfl; have x7 := hb9.cell (i := 7) rfl; clear hb9; go_simp; try with_reducible rfl)
  try simp only [Act.put, List.setIfInBounds_toArray, List.set_cons_zero, List.set_cons_succ]
  refine qcall (o := ⟨some 6, _, _, _, _, _⟩) (v := .agg #[.int .u64 0, .string ⟨#[]⟩, .int .u64 0]) (by rfl) (fun wq hSw => ?_) (fun wq hSw => Calls.mono (vat_any F h4 h6 g n l hl 1 0 0 ⟨#[]⟩ _ (hSw.blk HV.out (fun h => h)) (hr.1 1 (by omega))) ?_) ?_
  · (go_simp; try with_reducible rfl)
  · rintro e w9 ⟨rfl, hk⟩; exact ⟨rfl, hSw.trans hk (fun _ _ h => h)⟩
  try simp only [Act.put, List.setIfInBounds_toArray, List.set_cons_zero, List.set_cons_succ]
  refine qstep (o := ⟨some 7, _, _, _, _, _⟩) (v := ?_) (by rfl) (fun wq hSw => ?_) ?_
  rotate_left
  · (go_simp; try with_reducible rfl)
  try simp only [Act.put, List.setIfInBounds_toArray, List.set_cons_zero, List.set_cons_succ]
  refine qstep (o := ⟨some 8, _, _, _, _, _⟩) (v := ?_) (by rfl) (fun wq hSw => ?_) ?_
  rotate_left
  · (have hb9 := hSw.blk HB.out (fun h => h); have x0 := hb9.cell (i := 0) rfl; have x1 := hb9.cell (i := 1) rfl; have x2 := hb9.cell (i := 2) rfl; have x3 := hb9.cell (i := 3) rfl; have x4 := hb9.cell (i := 4) rfl; have x5 := hb9.cell (i := 5) rfl; have x6 := hb9.cell (i := 6) rfl; have x7 := hb9.cell (i := 7) rfl; clear hb9; go_simp; try with_reducible rfl)
  try simp only [Act.put, List.setIfInBounds_toArray, List.set_cons_zero, List.set_cons_succ]
  refine qcall (o := ⟨some 9, _, _, _, _, _⟩) (v := .agg #[.int .u64 0, .string ⟨#[]⟩, .int .u64 0]) (by rfl) (fun wq hSw => ?_) (fun wq hSw => Calls.mono (vat_any F h4 h6 g n l hl 2 0 0 ⟨#[]⟩ _ (hSw.blk HV.out (fun h => h)) (hr.1 2 (by omega))) ?_) ?_
  · (go_simp; try with_reducible rfl)
  · rintro e w9 ⟨rfl, hk⟩; exact ⟨rfl, hSw.trans hk (fun _ _ h => h)⟩
  try simp only [Act.put, List.setIfInBounds_toArray, List.set_cons_zero, List.set_cons_succ]
  refine qstep (o := ⟨some 10, _, _, _, _, _⟩) (v := ?_) (by rfl) (fun wq hSw => ?_) ?_
  rotate_left
  · (go_simp; try with_reducible rfl)
  try simp only [Act.put, List.setIfInBounds_toArray, List.set_cons_zero, List.set_cons_succ]
  refine qstep (o := ⟨some 11, _, _, _, _, _⟩) (v := .bool false) (by rfl) (fun wq hSw => ?_) ?_
  · (go_simp; try first | (with_reducible rfl) | (simp; omega) | (intros; omega) | simp [*])
  try simp only [Act.put, List.setIfInBounds_toArray, List.set_cons_zero, List.set_cons_succ]
  refine qstep (o := ⟨some 12, _, _, _, _, _⟩) (v := .bool false) (by rfl) (fun wq hSw => ?_) ?_
  · (go_simp; try first | (with_reducible rfl) | (simp; omega) | (intros; omega) | simp [*])
  try simp only [Act.put, List.setIfInBounds_toArray, List.set_cons_zero, List.set_cons_succ]
  refine qstep (o := ⟨some 13, _, _, _, _, _⟩) (v := ?_) (by rfl) (fun wq hSw => ?_) ?_
  rotate_left
  · (have hb9 := hSw.blk HB.out (fun h => h); have x0 := hb9.cell (i := 0) rfl; have x1 := hb9.cell (i := 1) rfl; have x2 := hb9.cell (i := 2) rfl; have x3 := hb9.cell (i := 3) rfl; have x4 := hb9.cell (i := 4) rfl; have x5 := hb9.cell (i := 5) rfl; have x6 := hb9.cell (i := 6) rfl; have x7 := hb9.cell (i := 7) rfl; clear hb9; go_simp; try with_reducible rfl)
  try simp only [Act.put, List.setIfInBounds_toArray, List.set_cons_zero, List.set_cons_succ]
  refine qcall (o := ⟨some 14, _, _, _, _, _⟩) (v := .agg #[.int .u64 0, .string ⟨#[]⟩, .int .u64 0]) (by rfl) (fun wq hSw => ?_) (fun wq hSw => Calls.mono (vat_any F h4 h6 g n l hl 3 0 0 ⟨#[]⟩ _ (hSw.blk HV.out (fun h => h)) (hr.1 3 (by omega))) ?_) ?_
  · (go_simp; try with_reducible rfl)
  · rintro e w9 ⟨rfl, hk⟩; exact ⟨rfl, hSw.trans hk (fun _ _ h => h)⟩
  try simp only [Act.put, List.setIfInBounds_toArray, List.set_cons_zero, List.set_cons_succ]
  refine qstep (o := ⟨some 15, _, _, _, _, _⟩) (v := ?_) (by rfl) (fun wq hSw => ?_) ?_
  rotate_left
  · (go_simp; try with_reducible rfl)
  try simp only [Act.put, List.setIfInBounds_toArray, List.set_cons_zero, List.set_cons_succ]
  refine qstep (o := ⟨some 16, _, _, _, _, _⟩) (v := ?_) (by rfl) (fun wq hSw => ?_) ?_
  rotate_left
  · (have hb9 := hSw.blk HB.out (fun h => h); have x0 := hb9.cell (i := 0) rfl; have x1 := hb9.cell (i := 1) rfl; have x2 := hb9.cell (i := 2) rfl; have x3 := hb9.cell (i := 3) rfl; have x4 := hb9.cell (i := 4) rfl; have x5 := hb9.cell (i := 5) rfl; have x6 := hb9.cell (i := 6) rfl; have x7 := hb9.cell (i := 7) rfl; clear hb9; go_simp; try with_reducible rfl)
  try simp only [Act.put, List.setIfInBounds_toArray, List.set_cons_zero, List.set_cons_succ]
  refine qcall (o := ⟨some 17, _, _, _, _, _⟩) (v := .agg #[.int .u64 0, .string ⟨#[]⟩, .int .u64 0]) (by rfl) (fun wq hSw => ?_) (fun wq hSw => Calls.mono (vat_any F h4 h6 g n l hl 2 0 0 ⟨#[]⟩ _ (hSw.blk HV.out (fun h => h)) (hr.1 2 (by omega))) ?_) ?_
  · (go_simp; try with_reducible rfl)
  · rintro e w9 ⟨rfl, hk⟩; exact ⟨rfl, hSw.trans hk (fun _ _ h => h)⟩
  try simp only [Act.put, List.setIfInBounds_toArray, List.set_cons_zero, List.set_cons_succ]
  refine qstep (o := ⟨some 18, _, _, _, _, _⟩) (v := ?_) (by rfl) (fun wq hSw => ?_) ?_
  rotate_left
  · (go_simp; try with_reducible rfl)
  try simp only [Act.put, List.setIfInBounds_toArray, List.set_cons_zero, List.set_cons_succ]
  refine qstep (o := ⟨some 19, _, _, _, _, _⟩) (v := .bool false) (by rfl) (fun wq hSw => ?_) ?_
  · (go_simp; try first | (with_reducible rfl) | (simp; omega) | (intros; omega) | simp [*])
  try simp only [Act.put, List.setIfInBounds_toArray, List.set_cons_zero, List.set_cons_succ]
  refine qstep (o := ⟨some 20, _, _, _, _, _⟩) (v := .bool false) (by rfl) (fun wq hSw => ?_) ?_
  · (go_simp; try first | (with_reducible rfl) | (simp; omega) | (intros; omega) | simp [*])
  try simp only [Act.put, List.setIfInBounds_toArray, List.set_cons_zero, List.set_cons_succ]
  refine qstep (o := ⟨some 21, _, _, _, _, _⟩) (v := .bool false) (by rfl) (fun wq hSw => ?_) ?_
  · (go_simp; try first | (with_reducible rfl) | (simp; omega) | (intros; omega) | simp [*])
  try simp only [Act.put, List.setIfInBounds_toArray, List.set_cons_zero, List.set_cons_succ]
  refine qstep (o := ⟨some 22, _, _, _, _, _⟩) (v := ?_) (by rfl) (fun wq hSw => ?_) ?_
  rotate_left
  · (have hb9 := hSw.blk HB.out (fun h => h); have x0 := hb9.cell (i := 0) rfl; have x1 := hb9.cell (i := 1) rfl; have x2 := hb9.cell (i := 2) rfl; have x3 := hb9.cell (i := 3) rfl; have x4 := hb9.cell (i := 4) rfl; have x5 := hb9.cell (i := 5) rfl; have x6 := hb9.cell (i := 6) rfl; have x7 := hb9.cell (i := 7) rfl; clear hb9; go_simp; try with_reducible rfl)
  try simp only [Act.put, List.setIfInBounds_toArray, List.set_cons_zero, List.set_cons_succ]
  refine qcall (o := ⟨some 23, _, _, _, _, _⟩) (v := .agg #[.int .u64 (tot : Int), .string ⟨#[]⟩, .int .u64 0]) (by rfl) (fun wq hSw => ?_) (fun wq hSw => Calls.mono (vat_any F h4 h6 g n l hl 4 (tot : Int) 0 ⟨#[]⟩ _ (hSw.blk HV.out (fun h => h)) htot) ?_) ?_
  · (go_simp; try with_reducible rfl)
  · rintro e w9 ⟨rfl, hk⟩; exact ⟨rfl, hSw.trans hk (fun _ _ h => h)⟩
  try simp only [Act.put, List.setIfInBounds_toArray, List.set_cons_zero, List.set_cons_succ]
  refine qstep (o := ⟨some 24, _, _, _, _, _⟩) (v := ?_) (by rfl) (fun wq hSw => ?_) ?_
  rotate_left
  · (go_simp; try with_reducible rfl)
  try simp only [Act.put, List.setIfInBounds_toArray, List.set_cons_zero, List.set_cons_succ]
  refine qstep (o := ⟨some 25, _, _, _, _, _⟩) (v := ?_) (by rfl) (fun wq hSw => ?_) ?_
  rotate_left
  · (go_simp; try with_reducible rfl)
  try simp only [Act.put, List.setIfInBounds_toArray, List.set_cons_zero, List.set_cons_succ]
  refine qstep (o := ⟨some 26, _, _, _, _, _⟩) (v := ?_) (by rfl) (fun wq hSw => ?_) ?_
  rotate_left
  · (go_simp; try with_reducible rfl)
  try simp only [Act.put, List.setIfInBounds_toArray, List.set_cons_zero, List.set_cons_succ]
  refine qstep (o := ⟨some 27, _, _, _, _, _⟩) (v := ?_) (by rfl) (fun wq hSw => ?_) ?_
  rotate_left
  · (have hb9 := hSw.blk HB.out (fun h => h); have x0 := hb9.cell (i := 0) rfl; have x1 := hb9.cell (i := 1) rfl; have x2 := hb9.cell (i := 2) rfl; have x3 := hb9.cell (i := 3) rfl; have x4 := hb9.cell (i := 4) rfl; have x5 := hb9.cell (i := 5) rfl; have x6 := hb9.cell (i := 6) rfl; have x7 := hb9.cell (i := 7) rfl; clear hb9; go_simp; try with_reducible rfl)
  try simp only [Act.put, List.setIfInBounds_toArray, List.set_cons_zero, List.set_cons_succ]
  refine qstep (o := ⟨some 28, _, _, _, _, _⟩) (v := .int .u64 100) (by rfl) (fun wq hSw => ?_) ?_
  · (go_simp; try first | (with_reducible rfl) | (simp; omega) | (intros; omega) | simp [*])
  try simp only [Act.put, List.setIfInBounds_toArray, List.set_cons_zero, List.set_cons_succ]
  refine qstep (o := ⟨some 29, _, _, _, _, _⟩) (v := .bool false) (by rfl) (fun wq hSw => ?_) ?_
  · (go_simp; try first | (with_reducible rfl) | (simp; omega) | (intros; omega) | simp [*])
  try simp only [Act.put, List.setIfInBounds_toArray, List.set_cons_zero, List.set_cons_succ]
  refine qstep (o := ⟨some 30, _, _, _, _, _⟩) (v := .bool false) (by rfl) (fun wq hSw => ?_) ?_
  · (go_simp; try first | (with_reducible rfl) | (simp; omega) | (intros; omega) | simp [*])
  try simp only [Act.put, List.setIfInBounds_toArray, List.set_cons_zero, List.set_cons_succ]
  refine qstep (o := ⟨some 31, _, _, _, _, _⟩) (v := .bool false) (by rfl) (fun wq hSw => ?_) ?_
  · (go_simp; try first | (with_reducible rfl) | (simp; omega) | (intros; omega) | simp [*])
  try simp only [Act.put, List.setIfInBounds_toArray, List.set_cons_zero, List.set_cons_succ]
  refine qstep (o := ⟨some 32, _, _, _, _, _⟩) (v := ?_) (by rfl) (fun wq hSw => ?_) ?_
  rotate_left
  · (have hb9 := hSw.blk HB.out (fun h => h); have x0 := hb9.cell (i := 0) rfl; have x1 := hb9.cell (i := 1) rfl; have x2 := hb9.cell (i := 2) rfl; have x3 := hb9.cell (i := 3) rfl; have x4 := hb9.cell (i := 4) rfl; have x5 := hb9.cell (i := 5) rfl; have x6 := hb9.cell (i := 6) rfl; have x7 := hb9.cell (i := 7) rfl; clear hb9; go_simp; try with_reducible rfl)
  try simp only [Act.put, List.setIfInBounds_toArray, List.set_cons_zero, List.set_cons_succ]
  refine qcall (o := ⟨some 33, _, _, _, _, _⟩) (v := .agg #[.int .u64 (kk : Int), .string ⟨#[]⟩, .int .u64 0]) (by rfl) (fun wq hSw => ?_) (fun wq hSw => Calls.mono (vat_any F h4 h6 g n l hl 5 (kk : Int) 0 ⟨#[]⟩ _ (hSw.blk HV.out (fun h => h)) hr.2) ?_) ?_
  · (go_simp; try with_reducible rfl)
  · rintro e w9 ⟨rfl, hk⟩; exact ⟨rfl, hSw.trans hk (fun _ _ h => h)⟩
  try simp only [Act.put, List.setIfInBounds_toArray, List.set_cons_zero, List.set_cons_succ]
  refine qstep (o := ⟨some 34, _, _, _, _, _⟩) (v := ?_) (by rfl) (fun wq hSw => ?_) ?_
  rotate_left
  · (go_simp; try with_reducible rfl)
  try simp only [Act.put, List.setIfInBounds_toArray, List.set_cons_zero, List.set_cons_succ]
  refine qstep (o := ⟨some 35, _, _, _, _, _⟩) (v := ?_) (by rfl) (fun wq hSw => ?_) ?_
  rotate_left
  · (go_simp; try with_reducible rfl)
  try simp only [Act.put, List.setIfInBounds_toArray, List.set_cons_zero, List.set_cons_succ]
  refine qstep (o := ⟨some 36, _, _, _, _, _⟩) (v := ?_) (by rfl) (fun wq hSw => ?_) ?_
  rotate_left
  · (go_simp; try with_reducible rfl)
  try simp only [Act.put, List.setIfInBounds_toArray, List.set_cons_zero, List.set_cons_succ]
  refine qstep (o := ⟨some 37, _, _, _, _, _⟩) (v := ?_) (by rfl) (fun wq hSw => ?_) ?_
  rotate_left
  · (have hb9 := hSw.blk HB.out (fun h => h); have x0 := hb9.cell (i := 0) rfl; have x1 := hb9.cell (i := 1) rfl; have x2 := hb9.cell (i := 2) rfl; have x3 := hb9.cell (i := 3) rfl; have x4 := hb9.cell (i := 4) rfl; have x5 := hb9.cell (i := 5) rfl; have x6 := hb9.cell (i := 6) rfl; have x7 := hb9.cell (i := 7) rfl; clear hb9; go_simp; try with_reducible rfl)
  try simp only [Act.put, List.setIfInBounds_toArray, List.set_cons_zero, List.set_cons_succ]
  refine qstep (o := ⟨some 38, _, _, _, _, _⟩) (v := .int .u64 100) (by rfl) (fun wq hSw => ?_) ?_
  · (go_simp; try first | (with_reducible rfl) | (simp; omega) | (intros; omega) | simp [*])
  try simp only [Act.put, List.setIfInBounds_toArray, List.set_cons_zero, List.set_cons_succ]
  refine qstep (o := ⟨some 39, _, _, _, _, _⟩) (v := .bool false) (by rfl) (fun wq hSw => ?_) ?_
  · (go_simp; try first | (with_reducible rfl) | (simp; omega) | (intros; omega) | simp [*])
  try simp only [Act.put, List.setIfInBounds_toArray, List.set_cons_zero, List.set_cons_succ]
  refine qstep (o := ⟨some 40, _, _, _, _, _⟩) (v := .bool false) (by rfl) (fun wq hSw => ?_) ?_
  · (go_simp; try first | (with_reducible rfl) | (simp; omega) | (intros; omega) | simp [*])
  try simp only [Act.put, List.setIfInBounds_toArray, List.set_cons_zero, List.set_cons_succ]
  refine qstep (o := ⟨some 41, _, _, _, _, _⟩) (v := .bool false) (by rfl) (fun wq hSw => ?_) ?_
  · (go_simp; try first | (with_reducible rfl) | (simp; omega) | (intros; omega) | simp [*])
  try simp only [Act.put, List.setIfInBounds_toArray, List.set_cons_zero, List.set_cons_succ]
  refine qstep (o := ⟨some 42, _, _, _, _, _⟩) (v := ?_) (by rfl) (fun wq hSw => ?_) ?_
  rotate_left
  · (have hb9 := hSw.blk HB.out (fun h => h); have x0 := hb9.cell (i := 0) rfl; have x1 := hb9.cell (i := 1) rfl; have x2 := hb9.cell (i := 2) rfl; have x3 := hb9.cell (i := 3) rfl; have x4 := hb9.cell (i := 4) rfl; have x5 := hb9.cell (i := 5) rfl; have x6 := hb9.cell (i := 6) rfl; have x7 := hb9.cell (i := 7) rfl; clear hb9; go_simp; try with_reducible rfl)
  try simp only [Act.put, List.setIfInBounds_toArray, List.set_cons_zero, List.set_cons_succ]
  refine qcall (o := ⟨some 43, _, _, _, _, _⟩) (v := .agg #[.int .u64 0, .string ⟨#[]⟩, .int .u64 0]) (by rfl) (fun wq hSw => ?_) (fun wq hSw => Calls.mono (vat_any F h4 h6 g n l hl 6 0 0 ⟨#[]⟩ _ (hSw.blk HV.out (fun h => h)) (hr.1 6 (by omega))) ?_) ?_
  · (go_simp; try with_reducible rfl)
  · rintro e w9 ⟨rfl, hk⟩; exact ⟨rfl, hSw.trans hk (fun _ _ h => h)⟩
  try simp only [Act.put, List.setIfInBounds_toArray, List.set_cons_zero, List.set_cons_succ]
  refine qstep (o := ⟨some 44, _, _, _, _, _⟩) (v := ?_) (by rfl) (fun wq hSw => ?_) ?_
  rotate_left
  · (go_simp; try with_reducible rfl)
  try simp only [Act.put, List.setIfInBounds_toArray, List.set_cons_zero, List.set_cons_succ]
  refine qstep (o := ⟨some 45, _, _, _, _, _⟩) (v := ?_) (by rfl) (fun wq hSw => ?_) ?_
  rotate_left
  · (go_simp; try with_reducible rfl)
  try simp only [Act.put, List.setIfInBounds_toArray, List.set_cons_zero, List.set_cons_succ]
  refine qstep (o := ⟨some 46, _, _, _, _, _⟩) (v := ?_) (by rfl) (fun wq hSw => ?_) ?_
  rotate_left
  · (go_simp; try with_reducible rfl)
  try simp only [Act.put, List.setIfInBounds_toArray, List.set_cons_zero, List.set_cons_succ]
  refine qstep (o := ⟨some 47, _, _, _, _, _⟩) (v := ?_) (by rfl) (fun wq hSw => ?_) ?_
  rotate_left
  · (have hb9 := hSw.blk HB.out (fun h => h); have x0 := hb9.cell (i := 0) rfl; have x1 := hb9.cell (i := 1) rfl; have x2 := hb9.cell (i := 2) rfl; have x3 := hb9.cell (i := 3) rfl; have x4 := hb9.cell (i := 4) rfl; have x5 := hb9.cell (i := 5) rfl; have x6 := hb9.cell (i := 6) rfl; have x7 := hb9.cell (i := 7) rfl; clear hb9; go_simp; try with_reducible rfl)
  try simp only [Act.put, List.setIfInBounds_toArray, List.set_cons_zero, List.set_cons_succ]
  refine qstep (o := ⟨some 48, _, _, _, _, _⟩) (v := .int .u64 200) (by rfl) (fun wq hSw => ?_) ?_
  · (go_simp; try first | (with_reducible rfl) | (simp; omega) | (intros; omega) | simp [*])
  try simp only [Act.put, List.setIfInBounds_toArray, List.set_cons_zero, List.set_cons_succ]
  refine qstep (o := ⟨some 49, _, _, _, _, _⟩) (v := .bool false) (by rfl) (fun wq hSw => ?_) ?_
  · (go_simp; try first | (with_reducible rfl) | (simp; omega) | (intros; omega) | simp [*])
  try simp only [Act.put, List.setIfInBounds_toArray, List.set_cons_zero, List.set_cons_succ]
  refine qstep (o := ⟨some 50, _, _, _, _, _⟩) (v := .bool false) (by rfl) (fun wq hSw => ?_) ?_
  · (go_simp; try first | (with_reducible rfl) | (simp; omega) | (intros; omega) | simp [*])
  try simp only [Act.put, List.setIfInBounds_toArray, List.set_cons_zero, List.set_cons_succ]
  refine qstep (o := ⟨some 51, _, _, _, _, _⟩) (v := .bool false) (by rfl) (fun wq hSw => ?_) ?_
  · (go_simp; try first | (with_reducible rfl) | (simp; omega) | (intros; omega) | simp [*])
  try simp only [Act.put, List.setIfInBounds_toArray, List.set_cons_zero, List.set_cons_succ]
  refine qstep (o := ⟨some 52, _, _, _, _, _⟩) (v := ?_) (by rfl) (fun wq hSw => ?_) ?_
  rotate_left
  · (have hb9 := hSw.blk HB.out (fun h => h); have x0 := hb9.cell (i := 0) rfl; have x1 := hb9.cell (i := 1) rfl; have x2 := hb9.cell (i := 2) rfl; have x3 := hb9.cell (i := 3) rfl; have x4 := hb9.cell (i := 4) rfl; have x5 := hb9.cell (i := 5) rfl; have x6 := hb9.cell (i := 6) rfl; have x7 := hb9.cell (i := 7) rfl; clear hb9; go_simp; try with_reducible rfl)
  try simp only [Act.put, List.setIfInBounds_toArray, List.set_cons_zero, List.set_cons_succ]
  refine qcall (o := ⟨some 53, _, _, _, _, _⟩) (v := .agg #[.int .u64 0, .string ⟨#[]⟩, .int .u64 0]) (by rfl) (fun wq hSw => ?_) (fun wq hSw => Calls.mono (vat_any F h4 h6 g n l hl 7 0 0 ⟨#[]⟩ _ (hSw.blk HV.out (fun h => h)) (hr.1 7 (by omega))) ?_) ?_
  · (go_simp; try with_reducible rfl)
  · rintro e w9 ⟨rfl, hk⟩; exact ⟨rfl, hSw.trans hk (fun _ _ h => h)⟩
  try simp only [Act.put, List.setIfInBounds_toArray, List.set_cons_zero, List.set_cons_succ]
  refine qstep (o := ⟨some 54, _, _, _, _, _⟩) (v := ?_) (by rfl) (fun wq hSw => ?_) ?_
  rotate_left
  · (go_simp; try with_reducible rfl)
  try simp only [Act.put, List.setIfInBounds_toArray, List.set_cons_zero, List.set_cons_succ]
  refine qstep (o := ⟨some 55, _, _, _, _, _⟩) (v := .int .u64 0) (by rfl) (fun wq hSw => ?_) ?_
  · (go_simp; try first | (with_reducible rfl) | (simp; omega) | (intros; omega) | simp [*])
  try simp only [Act.put, List.setIfInBounds_toArray, List.set_cons_zero, List.set_cons_succ]
  refine qstep (o := ⟨some 56, _, _, _, _, _⟩) (v := .bool false) (by rfl) (fun wq hSw => ?_) ?_
  · (go_simp; try first | (with_reducible rfl) | (simp; omega) | (intros; omega) | simp [*])
  try simp only [Act.put, List.setIfInBounds_toArray, List.set_cons_zero, List.set_cons_succ]
  refine qstep (o := ⟨some 57, _, _, _, _, _⟩) (v := .bool false) (by rfl) (fun wq hSw => ?_) ?_
  · (go_simp; try first | (with_reducible rfl) | (simp; omega) | (intros; omega) | simp [*])
  try simp only [Act.put, List.setIfInBounds_toArray, List.set_cons_zero, List.set_cons_succ]
  refine wpQuiet_nil ?_
  intro wz hHeld
  have HB1 := Lib.hid (hHeld.blk HB.out (fun h => h))
  have HV1 := Lib.hid (hHeld.blk HV.out (fun h => h))
  have HK1 := Lib.hid (HK.out.trans hHeld (fun _ _ h => h))
  clear hHeld HB HV HK
  rename World => V1
  go_wp2_with fail
  go_loopw [3] (fun iv wr => ∃ i : Nat, 8 ≤ i ∧ i ≤ 10 ∧ iv = .int .i64 (i : Int) ∧ Kept (fun _ => False) V1 wr) (fun iv _ => 10 - (intOf iv).toNat)
  case atStart => exact ⟨8, by omega, by omega, rfl, Kept.refl _ _⟩
  case round =>
    obtain ⟨i, hi1, hi2, rfl, hKr⟩ := hrel
    have HBr := Lib.hid (hKr.blk HB1.out (fun h => h))
    have HVr := Lib.hid (hKr.blk HV1.out (fun h => h))
    have HKr := Lib.hid (HK1.out.trans hKr (fun _ _ h => h))
    have HK0 := Lib.hid hKr
    clear hKr
    have hb9 := HBr.out
    have x0 := hb9.cell (i := 0) rfl
    have x1 := hb9.cell (i := 1) rfl
    have x2 := hb9.cell (i := 2) rfl
    have x3 := hb9.cell (i := 3) rfl
    have x4 := hb9.cell (i := 4) rfl
    have x5 := hb9.cell (i := 5) rfl
    have x6 := hb9.cell (i := 6) rfl
    have x7 := hb9.cell (i := 7) rfl
    clear hb9
    have HA := Lib.hid (show Calls Tryz.prog 58 #[.agg #[.int .i64 1, .int .i64 2, .int .i64 100, .int .i64 100, .int .i64 200, .int .i64 (F : Int), .int .u64 1000]] wr fun e w' => e = .returned (.int .i64 10) ∧ Kept (fun _ => False) wr w' from refA_any 1 2 100 100 200 (F : Int) 1000 (limF h4 h6) wr)
    by_cases hlt : i < 10
    · have hltI : (i : Int) < 10 := by omega
      go_wp2_with fail
      refine HA.out.mono ?_; rintro e w2 ⟨rfl, hK2⟩
      have HB2 := Lib.hid (hK2.blk HBr.out (fun h => h))
      have HV2 := Lib.hid (hK2.blk HVr.out (fun h => h))
      have HK2 := Lib.hid (HK0.out.trans hK2 (fun _ _ h => h))
      clear hK2 x0 x1 x2 x3 x4 x5 x6 x7 HA
      have hb9 := HB2.out
      have x0 := hb9.cell (i := 0) rfl
      have x1 := hb9.cell (i := 1) rfl
      have x2 := hb9.cell (i := 2) rfl
      have x3 := hb9.cell (i := 3) rfl
      have x4 := hb9.cell (i := 4) rfl
      have x5 := hb9.cell (i := 5) rfl
      have x6 := hb9.cell (i := 6) rfl
      have x7 := hb9.cell (i := 7) rfl
      clear hb9
      go_wp2_with fail
      refine (vat_any F h4 h6 g n l hl (i : Int) 0 0 ⟨#[]⟩ _ HV2.out (hr.1 (i : Int) (by omega))).mono ?_; rintro e w3 ⟨rfl, hK3⟩
      have HK3 := Lib.hid (HK2.out.trans hK3 (fun _ _ h => h))
      clear hK3 x0 x1 x2 x3 x4 x5 x6 x7
      go_wp2
      go_roundw
      case rel => exact ⟨i + 1, by omega, by omega, by go_num, HK3.out⟩
      case measure => simp [intOf]; omega
    · have hltI : ¬ (i : Int) < 10 := by omega
      go_wp2_with fail
      refine HA.out.mono ?_; rintro e w2 ⟨rfl, hK2⟩
      have HK2 := Lib.hid (HKr.out.trans hK2 (fun _ _ h => h))
      clear hK2
      go_wp2
      go_ret
      refine ⟨rfl, ?_⟩
      have := HK2.out
      exact this

set_option maxRecDepth 100000 in
set_option maxHeartbeats 8000000 in
theorem vchain_zero (F : Nat) (h4 : 4 ≤ F) (h6 : F ≤ 6) (g n : Nat) (l : List Cel) (hl : l.length = n) (kk c : Nat) (hr : Rest F kk l) (hc1 : 1 ≤ c) (hc2 : c ≤ 100) (w : World) (hv : Blk w g 56 (flat3 l)) :
    Calls Tryz.prog 100 #[.agg #[.int .i64 1, .int .i64 2, .int .i64 100, .int .i64 100, .int .i64 200, .int .i64 (F : Int), .int .u64 1000, .slice (some ⟨g, 0, none⟩) n n], .int .u64 (c : Int)] w fun e w' => e = .returned (.slice none 0 0) ∧ Kept (fun _ => False) w w' := by
  obtain ⟨a, ha⟩ : ∃ a, chainAt 100 (firstChain 1 2 100 (F : Int)) (c : Int) = a := ⟨_, rfl⟩
  have HCH := Lib.hid (show ∀ W, Calls Tryz.prog 99 #[.agg #[.int .i64 1, .int .i64 2, .int .i64 100, .int .i64 100, .int .i64 200, .int .i64 (F : Int), .int .u64 1000], .int .u64 (c : Int)] W fun e w' => e = .returned (.int .i64 a) ∧ Kept (fun _ => False) W w' from fun W => by
    have h := refChain_any 1 2 100 100 200 (F : Int) 1000 (c : Int) (limF h4 h6) (by omega) W
    rw [ha] at h; exact h)
  have HRC := Lib.hid (show ∀ W, Calls Tryz.prog 119 #[.agg #[.int .i64 1, .int .i64 2, .int .i64 100, .int .i64 100, .int .i64 200, .int .i64 (F : Int), .int .u64 1000], .int .u64 0, .int .i64 0] W fun e w' => e = .returned (.int .i64 (-1)) ∧ Kept (fun _ => False) W w' from fun W =>
    refRec_any 1 2 100 100 200 (F : Int) 1000 0 0 (limF h4 h6) (by omega) (by omega) (by omega) W)
  have HCA := Lib.hid (show cellAt l a = ((0 : Int), (⟨#[]⟩ : ByteArray), (0 : Int)) from hr.1 a (.inr (.inr (by
    rw [← ha]; unfold chainAt firstChain firstNode; rw [if_pos (by omega)]; omega))))
  clear ha
  have f0 := field0 (0 : Int) 0 ⟨#[]⟩
  have HV0 := Lib.hid hv
  clear hv
  go_enter Tryz.func100, Tryz.ntmps100
  go_upto_region 2 with fail
  have hal := (Kept.refl (fun _ => False) w).alloc (.cells #[.int .i64 1, .int .i64 2, .int .i64 100, .int .i64 100, .int .i64 200, .int .i64 (F : Int), .int .u64 1000, .slice (some ⟨g, 0, none⟩) n n] 38)
  have HB := Lib.hid (Blk.new w [.int .i64 1, .int .i64 2, .int .i64 100, .int .i64 100, .int .i64 200, .int .i64 (F : Int), .int .u64 1000, .slice (some ⟨g, 0, none⟩) n n] 38)
  have HV := Lib.hid (hal.blk HV0.out (fun h => h))
  have HK := Lib.hid hal
  clear hal
  generalize w.alloc (.cells #[.int .i64 1, .int .i64 2, .int .i64 100, .int .i64 100, .int .i64 200, .int .i64 (F : Int), .int .u64 1000, .slice (some ⟨g, 0, none⟩) n n] 38) = W at *
  generalize hr0 : w.heap.size = r0 at *
  have HR0 := Lib.hid hr0
  clear hr0
  refine qregion (fun w' => Kept (fun _ => False) W w') (by kernel_rfl) (by kernel_rfl) (Kept.refl _ _).drew ?_
  refine qstep (o := ⟨some 9, _, _, _, _, _⟩) (v := ?_) (by rfl) (fun wq hSw => ?_) ?_
  rotate_left
  · (have hb9 := hSw.blk HB.out (fun h => h); have x0 := hb9.cell (i := 0) rfl; have x1 := hb9.cell (i := 1) rfl; have x2 := hb9.cell (i := 2) rfl; have x3 := hb9.cell (i := 3) rfl; have x4 := hb9.cell (i := 4) rfl; have x5 := hb9.cell (i := 5) rfl; have x6 := hb9.cell (i := 6) rfl; have x7 := hb9.cell (i := 7) rfl; clear hb9; go_simp; try with_reducible rfl)
  try simp only [Act.put, List.setIfInBounds_toArray, List.set_cons_zero, List.set_cons_succ]
  refine qstep (o := ⟨some 10, _, _, _, _, _⟩) (v := ?_) (by rfl) (fun wq hSw => ?_) ?_
  rotate_left
  · (go_simp; try with_reducible rfl)
  try simp only [Act.put, List.setIfInBounds_toArray, List.set_cons_zero, List.set_cons_succ]
  refine qstep (o := ⟨some 11, _, _, _, _, _⟩) (v := ?_) (by rfl) (fun wq hSw => ?_) ?_
  rotate_left
  · (have hb9 := hSw.blk HB.out (fun h => h); have x0 := hb9.cell (i := 0) rfl; have x1 := hb9.cell (i := 1) rfl; have x2 := hb9.cell (i := 2) rfl; have x3 := hb9.cell (i := 3) rfl; have x4 := hb9.cell (i := 4) rfl; have x5 := hb9.cell (i := 5) rfl; have x6 := hb9.cell (i := 6) rfl; have x7 := hb9.cell (i := 7) rfl; clear hb9; go_simp; try with_reducible rfl)
  try simp only [Act.put, List.setIfInBounds_toArray, List.set_cons_zero, List.set_cons_succ]
  refine qstep (o := ⟨some 12, _, _, _, _, _⟩) (v := ?_) (by rfl) (fun wq hSw => ?_) ?_
  rotate_left
  · (go_simp; try with_reducible rfl)
  try simp only [Act.put, List.setIfInBounds_toArray, List.set_cons_zero, List.set_cons_succ]
  refine qcall (o := ⟨some 13, _, _, _, _, _⟩) (v := .int .i64 a) (by rfl) (fun wq hSw => ?_) (fun wq hSw => Calls.mono (HCH.out _) ?_) ?_
  · (go_simp; try with_reducible rfl)
  · rintro e w9 ⟨rfl, hk⟩; exact ⟨rfl, hSw.trans hk (fun _ _ h => h)⟩
  try simp only [Act.put, List.setIfInBounds_toArray, List.set_cons_zero, List.set_cons_succ]
  refine qcall (o := ⟨some 14, _, _, _, _, _⟩) (v := .agg #[.int .u64 0, .string ⟨#[]⟩, .int .u64 0]) (by rfl) (fun wq hSw => ?_) (fun wq hSw => Calls.mono (vat_any F h4 h6 g n l hl a 0 0 ⟨#[]⟩ _ (hSw.blk HV.out (fun h => h)) HCA.out) ?_) ?_
  · (go_simp; try with_reducible rfl)
  · rintro e w9 ⟨rfl, hk⟩; exact ⟨rfl, hSw.trans hk (fun _ _ h => h)⟩
  try simp only [Act.put, List.setIfInBounds_toArray, List.set_cons_zero, List.set_cons_succ]
  refine qstep (o := ⟨some 15, _, _, _, _, _⟩) (v := ?_) (by rfl) (fun wq hSw => ?_) ?_
  rotate_left
  · (go_simp; try with_reducible rfl)
  try simp only [Act.put, List.setIfInBounds_toArray, List.set_cons_zero, List.set_cons_succ]
  refine qstep (o := ⟨some 6, _, _, _, _, _⟩) (v := ?_) (by rfl) (fun wq hSw => ?_) ?_
  rotate_left
  · (go_simp; try with_reducible rfl)
  try simp only [Act.put, List.setIfInBounds_toArray, List.set_cons_zero, List.set_cons_succ]
  refine wpQuiet_nil ?_
  intro wz hHeld
  have HB1 := Lib.hid (hHeld.blk HB.out (fun h => h))
  have HK1 := Lib.hid (HK.out.trans hHeld (fun _ _ h => h))
  clear hHeld HB HV HK
  rename World => V1
  go_wp2_with fail
  go_loopw [5, 6, 7] (fun ov rv kv wr => ov = .slice none 0 0 ∧ rv = .int .u64 0 ∧ kv = .int .i64 0 ∧ Kept (fun _ => False) V1 wr) (fun _ _ _ _ => 0)
  case atStart => exact ⟨rfl, rfl, rfl, Kept.refl _ _⟩
  case round =>
    obtain ⟨rfl, rfl, rfl, hKr⟩ := hrel
    have hb9 := hKr.blk HB1.out (fun h => h)
    have x0 := hb9.cell (i := 0) rfl
    have x1 := hb9.cell (i := 1) rfl
    have x2 := hb9.cell (i := 2) rfl
    have x3 := hb9.cell (i := 3) rfl
    have x4 := hb9.cell (i := 4) rfl
    have x5 := hb9.cell (i := 5) rfl
    have x6 := hb9.cell (i := 6) rfl
    have x7 := hb9.cell (i := 7) rfl
    have HKr := Lib.hid (HK1.out.trans hKr (fun _ _ h => h))
    clear hb9 hKr
    go_wp2_with fail
    refine (HRC.out _).mono ?_; rintro e w2 ⟨rfl, hK2⟩
    have HK2 := Lib.hid (HKr.out.trans hK2 (fun _ _ h => h))
    clear hK2
    go_wp2
    go_ret
    refine ⟨rfl, ?_⟩
    have := HK2.out
    exact this

set_option maxHeartbeats 1000000 in
theorem refCheck9_nil (w : World) :
    Calls Tryz.prog 101 #[.slice none 0 0] w fun e w' => e = .returned (.bool true) ∧ w = w' := by
  go_enter Tryz.func101, Tryz.ntmps101
  go_wp2_with fail
  go_loopw [3] (fun iv wr => iv = .int .i64 0 ∧ wr = w) (fun _ _ => 0)
  case atStart => exact ⟨rfl, rfl⟩
  case round =>
    obtain ⟨rfl, rfl⟩ := hrel
    go_wp2
    go_ret
    exact ⟨rfl, rfl⟩

/-- The chains of so many slots. -/
def rfs (m : Nat) : List Nat := (List.range m).map (· + 1)
theorem rfs_len (m : Nat) : (rfs m).length = m := by unfold rfs; simp
theorem rfs_at {m i : Nat} (h : i < m) : (rfs m)[i]? = some (i + 1) := by unfold rfs; rw [List.getElem?_map, List.getElem?_range h]; rfl
theorem rfs_step (m : Nat) : rfs (m + 1) = rfs m ++ [m + 1] := by unfold rfs; rw [List.range_succ, List.map_append]; rfl
theorem wds_snoc (ps : List Nat) (p : Nat) : wds (ps ++ [p]) = wds ps ++ [.int .u64 (p : Int)] := by unfold wds; rw [List.map_append]; rfl
set_option maxRecDepth 100000 in
set_option maxHeartbeats 8000000 in
theorem vrefs_any (F : Nat) (h4 : 4 ≤ F) (h6 : F ≤ 6) (g n : Nat) (l : List Cel) (hl : l.length = n) (H : Nat) (st mm : Nat → Nat) (lo : Nat → Nat → ByteArray) (pg : Nat → Nat → Pg) (T : Tr F l H st mm lo pg) (h0 : 0 < H) (ks : List ByteArray) (off : Nat → Nat) (hlv : Leaves ks (mm 0) (lo 0) (pg 0) off) (hk40 : ks.length ≤ 100) (w : World) (hv : Blk w g 56 (flat3 l)) :
    Calls Tryz.prog 98 #[.agg #[.int .i64 1, .int .i64 2, .int .i64 100, .int .i64 100, .int .i64 200, .int .i64 (F : Int), .int .u64 1000, .slice (some ⟨g, 0, none⟩) n n]] w fun e w' => ∃ (A : Option Addr) (c : Nat), e = .returned (.slice A ks.length c) ∧ Wr w' A w.heap.size (rfs ks.length) ∧ Kept (fun _ => False) w w' := by
  obtain ⟨i0, hi0, hz0, hz1, hz2⟩ := info_parts infoU64
  have HI0 := Lib.hid hi0
  have HI1 := Lib.hid hz0
  have HI2 := Lib.hid hz1
  have HI3 := Lib.hid hz2
  clear hi0 hz0 hz1 hz2
  have HLV := Lib.hid hlv
  clear hlv
  have HV0 := Lib.hid hv
  clear hv
  go_enter Tryz.func98, Tryz.ntmps98
  go_wp2_with fail
  have hal := (Kept.refl (fun _ => False) w).alloc (.cells #[.int .i64 1, .int .i64 2, .int .i64 100, .int .i64 100, .int .i64 200, .int .i64 (F : Int), .int .u64 1000, .slice (some ⟨g, 0, none⟩) n n] 38)
  have HB := Lib.hid (Blk.new w [.int .i64 1, .int .i64 2, .int .i64 100, .int .i64 100, .int .i64 200, .int .i64 (F : Int), .int .u64 1000, .slice (some ⟨g, 0, none⟩) n n] 38)
  have HV := Lib.hid (hal.blk HV0.out (fun h => h))
  have HK := Lib.hid hal
  clear hal
  generalize w.alloc (.cells #[.int .i64 1, .int .i64 2, .int .i64 100, .int .i64 100, .int .i64 200, .int .i64 (F : Int), .int .u64 1000, .slice (some ⟨g, 0, none⟩) n n] 38) = W at *
  generalize hr0 : w.heap.size = r0 at *
  have HR0 := Lib.hid hr0
  clear hr0
  have hb9 := HB.out
  have x0 := hb9.cell (i := 0) rfl
  have x1 := hb9.cell (i := 1) rfl
  have x2 := hb9.cell (i := 2) rfl
  have x3 := hb9.cell (i := 3) rfl
  have x4 := hb9.cell (i := 4) rfl
  have x5 := hb9.cell (i := 5) rfl
  have x6 := hb9.cell (i := 6) rfl
  have x7 := hb9.cell (i := 7) rfl
  clear hb9
  have hmp := (T.lev 0 h0).pos
  have hmt := (T.lev 0 h0).top
  refine (vlevel_in F h4 h6 g n l hl H st mm lo pg T 0 h0 _ HV.out).mono ?_; rintro e Z ⟨AL, cL, rfl, hAL, hK9⟩
  obtain ⟨gL, oL, rfl, hgL, -, hcL⟩ := hAL (by omega)
  have HBz := Lib.hid (hK9.blk HB.out (fun h => h))
  have HVz := Lib.hid (hK9.blk HV.out (fun h => h))
  have HKz := Lib.hid (HK.out.trans hK9 (fun _ _ h => h))
  obtain ⟨m, hm⟩ : ∃ m, mm 0 = m := ⟨_, rfl⟩
  rw [hm] at hcL hmp hmt
  rw [hm]
  have HMM := Lib.hid hm
  have HCLz := Lib.hid (show ∀ i, i < m → Z.cell? ⟨gL, oL + i, none⟩ = some (.int .u64 ((st 0 + i : Nat) : Int)) from fun i hi => hcL i _ (ids_at hi))
  clear hcL hAL hK9 HB HV HK hm x0 x1 x2 x3 x4 x5 x6 x7
  go_wp2_with fail
  go_loopw [3, 5] (fun ov iv wr => ∃ i : Nat, i ≤ m ∧ iv = .int .i64 (i : Int) ∧ slLen ov = off i ∧ wr.ownsRow Z.heap.size 23 1 ov (off i) (wds (rfs (off i))) ∧ Below Z.heap.size Z wr) (fun _ iv _ => m - (intOf iv).toNat)
  case atStart => exact ⟨0, Nat.zero_le _, rfl, HLV.out.zero.symm, by rw [HLV.out.zero]; exact World.ownsRow_nil _ _ _ _, Below.refl _ _⟩
  case round =>
    rename World => V3
    obtain ⟨i, him0, rfl, hsl, hO, hBl⟩ := hrel
    have HO := Lib.hid hO
    have HBl := Lib.hid hBl
    have hzr := hBl.size
    obtain ⟨A0, c0, rfl, -⟩ := words_read hO
    have HOB := Lib.hid (fun k hk => hO.lt k hk)
    have HBr := Lib.hid (HBz.out.below hBl HBz.out.lt)
    have HVr := Lib.hid (HVz.out.below hBl HVz.out.lt)
    have hgLr : gL < V3.heap.size := Nat.lt_of_lt_of_le hgL hzr
    clear hO hBl hsl
    by_cases himm : i < m
    · have him : i < mm 0 := by rw [HMM.out]; exact himm
      obtain ⟨nid, hnid⟩ : ∃ nid, st 0 + i = nid := ⟨_, rfl⟩
      have hcl := HCLz.out i himm
      rw [hnid] at hcl
      have HCL := Lib.hid ((HBl.out.cell (p := ⟨gL, oL + i, none⟩) hgL).trans hcl)
      obtain ⟨P, hP⟩ : ∃ P, pg 0 i = P := ⟨_, rfl⟩
      obtain ⟨la3, hla3⟩ : ∃ x, P.la = x := ⟨_, rfl⟩
      obtain ⟨hi3, hhi3⟩ : ∃ x, P.hi = x := ⟨_, rfl⟩
      obtain ⟨n3, hn3⟩ : ∃ x, P.xs.length = x := ⟨_, rfl⟩
      obtain ⟨rt3, hrt3⟩ : ∃ x, P.rt = x := ⟨_, rfl⟩
      have HPP := Lib.hid hP
      have HN3 := Lib.hid hn3
      have hn3b : n3 ≤ 6 := by rw [← hn3, ← hP]; have := ((T.lev 0 h0).nd i him).len; omega
      have HPAGE := Lib.hid (show ∀ W', Kept (fun _ => False) V3 W' → Calls Tryz.prog 18 #[.agg #[.int .i64 1, .int .i64 2, .int .i64 100, .int .i64 100, .int .i64 200, .int .i64 (F : Int), .int .u64 1000, .slice (some ⟨g, 0, none⟩) n n], .int .u64 (nid : Int)] W' fun e w' => ∃ (A : Option Addr) (c : Nat), e = .returned (.agg #[.int .i64 0, .slice A n3 c, .string hi3, .bool la3, .int .u64 (rt3 : Int)]) ∧ Rs w' A c P.xs ∧ (∀ a, A = some a → W'.heap.size ≤ a.block) ∧ Kept (fun _ => False) W' w' from fun W' hW => by
        refine (tpage_any F h4 h6 g n l hl H st mm lo pg T 0 i nid h0 him hnid.symm 0 rfl W' (hW.blk HVr.out (fun h => h))).mono ?_
        rintro e w' ⟨A, c, rfl, hr, ha, hk⟩
        rw [hP] at hr ⊢
        rw [hhi3, hla3, hn3, hrt3]
        exact ⟨A, c, rfl, hr, ha, hk⟩)
      have himI : (i : Int) < (m : Int) := by omega
      clear hcl hnid hP hla3 hhi3 hn3 hrt3
      go_upto_region 6 with fail
      refine wp_region_held_drew (S := (fun w' => Kept (fun _ => False) V3 w')) (by kernel_rfl) ?_ (fun hHeld => ?_)
      · exact (Kept.refl _ _).drew
      have HW := Lib.hid ((Kept.refl (fun _ => False) V3).drew)
      generalize V3.drew = G at *
      refine wpAnyH_take (i := 0) (oi := ⟨some 16, _, _, _, _, _⟩) (v := ?_) rfl (by kernel_rfl) (by kernel_rfl) (by kernel_rfl) (fun _ _ _ h => h) (Or.inl ⟨by rfl, ?_⟩) hHeld ?_
      rotate_left
      · (intro wq hSw; have hb9 := hSw.blk HBr.out (fun h => h); have x0 := hb9.cell (i := 0) rfl; have x1 := hb9.cell (i := 1) rfl; have x2 := hb9.cell (i := 2) rfl; have x3 := hb9.cell (i := 3) rfl; have x4 := hb9.cell (i := 4) rfl; have x5 := hb9.cell (i := 5) rfl; have x6 := hb9.cell (i := 6) rfl; have x7 := hb9.cell (i := 7) rfl; clear hb9; have hc9 := (hSw.cell (p := ⟨gL, oL + i, none⟩) hgLr (fun h => h)).trans HCL.out; go_simp; try with_reducible rfl)
      try simp only [Act.put, List.setIfInBounds_toArray, List.set_cons_zero, List.set_cons_succ]
      refine wpAnyH_take (i := 1) (oi := ⟨some 17, _, _, _, _, _⟩) (v := ?_) rfl (by kernel_rfl) (by kernel_rfl) (by kernel_rfl) (fun _ _ _ h => h) (Or.inl ⟨by rfl, ?_⟩) hHeld ?_
      rotate_left
      · (intro wq hSw; go_simp; try with_reducible rfl)
      try simp only [Act.put, List.setIfInBounds_toArray, List.set_cons_zero, List.set_cons_succ]
      refine wpAnyH_take (i := 2) (oi := ⟨some 18, _, _, _, _, _⟩) (v := ?_) rfl (by kernel_rfl) (by kernel_rfl) (by kernel_rfl) (fun _ _ _ h => h) (Or.inl ⟨by rfl, ?_⟩) hHeld ?_
      rotate_left
      · (intro wq hSw; go_simp; try with_reducible rfl)
      try simp only [Act.put, List.setIfInBounds_toArray, List.set_cons_zero, List.set_cons_succ]
      refine wpAnyH_take (i := 3) (oi := ⟨some 19, _, _, _, _, _⟩) (v := ?_) rfl (by kernel_rfl) (by kernel_rfl) (by kernel_rfl) (fun _ _ _ h => h) (Or.inl ⟨by rfl, ?_⟩) hHeld ?_
      rotate_left
      · (intro wq hSw; go_simp; try with_reducible rfl)
      try simp only [Act.put, List.setIfInBounds_toArray, List.set_cons_zero, List.set_cons_succ]
      refine wpAnyH_take (i := 4) (oi := ⟨some 20, _, _, _, _, _⟩) (v := ?_) rfl (by kernel_rfl) (by kernel_rfl) (by kernel_rfl) (fun _ _ _ h => h) (Or.inl ⟨by rfl, ?_⟩) hHeld ?_
      rotate_left
      · (intro wq hSw; have hb9 := hSw.blk HBr.out (fun h => h); have x0 := hb9.cell (i := 0) rfl; have x1 := hb9.cell (i := 1) rfl; have x2 := hb9.cell (i := 2) rfl; have x3 := hb9.cell (i := 3) rfl; have x4 := hb9.cell (i := 4) rfl; have x5 := hb9.cell (i := 5) rfl; have x6 := hb9.cell (i := 6) rfl; have x7 := hb9.cell (i := 7) rfl; clear hb9; have hc9 := (hSw.cell (p := ⟨gL, oL + i, none⟩) hgLr (fun h => h)).trans HCL.out; go_simp; try with_reducible rfl)
      try simp only [Act.put, List.setIfInBounds_toArray, List.set_cons_zero, List.set_cons_succ]
      refine wpAnyH_ready (rs := [5, 6]) (by kernel_rfl) (by simp) ?_
      refine AllReadyH.cons (o := ⟨some 21, _, _, _, _, _⟩) rfl (fun KK hK => ?_) (AllReadyH.cons (o := ⟨some 6, _, _, _, _, _⟩) rfl (fun KK hK => ?_) (AllReadyH.nil))
      · go_simp
        go_at_call 18
        have hsz4 := HW.out.size
        refine (HPAGE.out _ HW.out).mono ?_; rintro e G ⟨A3, c3, rfl, hR3, hA3, hK3⟩
        try have HRQ := Lib.hid (show 0 < P.xs.length → ∀ a, A3 = some a → a.block ≠ rq from fun _ a ha => by have h1 := hA3 a ha; have h2 := HSL.out.lt; omega)
        try replace HSL := Lib.hid (hK3.blk HSL.out (fun h => h))
        replace HW := Lib.hid (HW.out.trans hK3 (fun _ _ h => h))
        have HR3 := Lib.hid hR3
        have HA3 := Lib.hid (show ∀ a, A3 = some a → V3.heap.size ≤ a.block from fun a ha => Nat.le_trans hsz4 (hA3 a ha))
        clear hK3 hR3 hA3 hsz4
        refine hK.out _ _ ?_ (fun hHeld2 => ?_)
        · exact HW.out
        clear hK KK hHeld
        have hHeld := hHeld2
        clear hHeld2
        try simp only [Act.put, List.setIfInBounds_toArray, List.set_cons_zero, List.set_cons_succ]
        refine wpAnyH_ready (rs := [6]) (by kernel_rfl) (by simp) ?_
        refine AllReadyH.cons (o := ⟨some 6, _, _, _, _, _⟩) rfl (fun KK hK => ?_) (AllReadyH.nil)
        go_simp
        have hr1 : V3.heap.size ≤ G.heap.size := HW.out.size
        replace HW := Lib.hid (HW.out.alloc (.cells #[.int .i64 0, .slice none 0 0, .string ⟨#[]⟩, .bool false, .int .u64 0] 46))
        have HSL := Lib.hid (Blk.new G [.int .i64 0, .slice none 0 0, .string ⟨#[]⟩, .bool false, .int .u64 0] 46)
        try have HRQ := Lib.hid (show 0 < P.xs.length → ∀ a, A3 = some a → a.block ≠ G.heap.size from fun hp a ha => by
          obtain ⟨g9, off9, he9, hg9, -⟩ := HR3.out.at hp
          rw [ha] at he9; cases he9; exact Nat.ne_of_lt hg9)
        try replace HR3 := Lib.hid (HR3.out.keptF ((Kept.refl (fun _ => False) G).alloc (.cells #[.int .i64 0, .slice none 0 0, .string ⟨#[]⟩, .bool false, .int .u64 0] 46)) (fun _ _ h => h))
        generalize G.heap.size = rq at *
        have HR1 := Lib.hid hr1
        clear hr1
        generalize G.alloc (.cells #[.int .i64 0, .slice none 0 0, .string ⟨#[]⟩, .bool false, .int .u64 0] 46) = G at *
        refine hK.out _ _ ?_ (fun hHeld2 => ?_)
        · exact HW.out
        clear hK KK hHeld
        have hHeld := hHeld2
        clear hHeld2
        try simp only [Act.put, List.setIfInBounds_toArray, List.set_cons_zero, List.set_cons_succ]
        refine wpAnyH_ready (rs := [7]) (by kernel_rfl) (by simp) ?_
        refine AllReadyH.cons (o := ⟨none, _, _, _, _, _⟩) rfl (fun KK hK => ?_) (AllReadyH.nil)
        have hs9 := HSL.out
        have s0 := hs9.cell (i := 0) rfl
        have s1 := hs9.cell (i := 1) rfl
        have s2 := hs9.cell (i := 2) rfl
        have s3 := hs9.cell (i := 3) rfl
        have s4 := hs9.cell (i := 4) rfl
        have z0 := hs9.frozen 0
        have z1 := hs9.frozen 1
        have z2 := hs9.frozen 2
        have z3 := hs9.frozen 3
        have z4 := hs9.frozen 4
        clear hs9
        go_simp
        have hKs5 := (((((Kept.refl (fun i => i = rq) G).setCell (a := ⟨rq, 0, none⟩) (fun _ => rfl) (.int .i64 0)).setCell (a := ⟨rq, 1, none⟩) (fun _ => rfl) (.slice A3 n3 c3)).setCell (a := ⟨rq, 2, none⟩) (fun _ => rfl) (.string hi3)).setCell (a := ⟨rq, 3, none⟩) (fun _ => rfl) (.bool la3)).setCell (a := ⟨rq, 4, none⟩) (fun _ => rfl) (.int .u64 (rt3 : Int))
        replace HR3 := Lib.hid (HR3.out.keptP hKs5 (fun hp a ha e => HRQ.out hp a ha e))
        replace HW := Lib.hid ((((((HW.out).setNew HR1.out 0 (.int .i64 0)).setNew HR1.out 1 (.slice A3 n3 c3)).setNew HR1.out 2 (.string hi3)).setNew HR1.out 3 (.bool la3)).setNew HR1.out 4 (.int .u64 (rt3 : Int)))
        replace HSL := Lib.hid ((((((HSL.out).set 0 (.int .i64 0)).set 1 (.slice A3 n3 c3)).set 2 (.string hi3)).set 3 (.bool la3)).set 4 (.int .u64 (rt3 : Int)))
        clear hKs5 s0 s1 s2 s3 s4 z0 z1 z2 z3 z4
        generalize (((((G).setCell ⟨rq, 0, none⟩ (.int .i64 0)).setCell ⟨rq, 1, none⟩ (.slice A3 n3 c3)).setCell ⟨rq, 2, none⟩ (.string hi3)).setCell ⟨rq, 3, none⟩ (.bool la3)).setCell ⟨rq, 4, none⟩ (.int .u64 (rt3 : Int)) = G at *
        refine hK.out _ _ ?_ (fun hHeld2 => ?_)
        · exact HW.out
        clear hK KK hHeld
        have hHeld := hHeld2
        clear hHeld2
        try simp only [Act.put, List.setIfInBounds_toArray, List.set_cons_zero, List.set_cons_succ]
        refine wpAnyH_done (by kernel_rfl) ?_ _
        clear hHeld
        replace HBl := Lib.hid (HBl.out.trans ((HW.out.below (Nat.le_refl _) (fun _ h => h.elim)).mono hzr))
        replace HO := Lib.hid (own_kept HO.out HW.out (fun _ _ h => h))
        replace HBr := Lib.hid (HW.out.blk HBr.out (fun h => h))
        have hzG : Z.heap.size ≤ G.heap.size := Nat.le_trans hzr HW.out.size
        have HZR := Lib.hid hzG
        have HVG := Lib.hid HW.out.size
        clear HW HCL HPAGE hzr hzG
        go_wp2_with fail
        go_loopw [3, 7] (fun ov qv wr => ∃ q : Nat, q ≤ n3 ∧ qv = .int .i64 (q : Int) ∧ slLen ov = off i + q ∧ wr.ownsRow Z.heap.size 23 1 ov (off i + q) (wds (rfs (off i + q))) ∧ Below Z.heap.size Z wr ∧ (∀ k, ov.ownBlock = some k → (Z.heap.size ≤ k ∧ k < V3.heap.size) ∨ G.heap.size ≤ k) ∧ Kept (fun k => Z.heap.size ≤ k ∧ k < V3.heap.size) G wr) (fun _ qv _ => n3 - (intOf qv).toNat)
        case atStart => exact ⟨0, Nat.zero_le _, rfl, by rw [Nat.add_zero]; rfl, by rw [Nat.add_zero]; exact HO.out, HBl.out, fun k hk => .inl (HOB.out k hk), Kept.refl _ _⟩
        case round =>
          rename World => U
          obtain ⟨q, hq, rfl, hsl2, hO2, hBl2, hob2, hBG2⟩ := hrel
          have HOB2 := Lib.hid hob2
          clear hob2
          have HO2 := Lib.hid hO2
          have HBl2 := Lib.hid hBl2
          have HBG2 := Lib.hid hBG2
          have hzu := hBl2.size
          obtain ⟨A1, c1, rfl, -⟩ := words_read hO2
          have HRQV := Lib.hid (show ¬ (Z.heap.size ≤ rq ∧ rq < V3.heap.size) by have := HR1.out; omega)
          have hs9 := hBG2.blk HSL.out HRQV.out
          have s0 := hs9.cell (i := 0) rfl
          have s1 := hs9.cell (i := 1) rfl
          have s2 := hs9.cell (i := 2) rfl
          have s3 := hs9.cell (i := 3) rfl
          have s4 := hs9.cell (i := 4) rfl
          clear hs9 hO2 hBl2 hBG2 hsl2
          by_cases hqn : q < n3
          · obtain ⟨x, hx⟩ : ∃ x, P.xs[q]? = some x := ⟨_, List.getElem?_eq_getElem (by have := HN3.out; omega)⟩
            obtain ⟨g3, o3, rfl, hg3, hc3⟩ := (HR3.out.keptP HBG2.out (fun _ a ha e => by have := HA3.out a ha; omega)).at (by have := HN3.out; omega)
            obtain ⟨y0, y1⟩ := hc3 q x hx
            have hxr : (x.2 : Int) = ((off i + q + 1 : Nat) : Int) := by have := (HLV.out.slot i him q x (by rw [HPP.out]; exact hx)).2; omega
            rw [hxr] at y1
            have hqI : (q : Int) < (n3 : Int) := by omega
            obtain ⟨m1, hm1⟩ : ∃ m1, off i + q = m1 := ⟨_, rfl⟩
            rw [hm1] at y1
            rw [hm1] at HO2 HOB2
            rw [hm1]
            have HM1 := Lib.hid hm1
            have hm100 : m1 < ks.length := by have := (List.getElem?_eq_some_iff.1 (HLV.out.slot i him q x (by rw [HPP.out]; exact hx)).1).1; omega
            clear hc3 hx hxr hm1
            have hown := HO2.out
            go_wp2_with (at_builtin; go_must (refine wpList_append_lies _ rfl (.tmp 29) (.tmp 36) 50 rfl Z.heap.size 23 i0 _ 1 8 Tryz.underlying50 HI0.out HI1.out HI2.out HI3.out rfl (by decide) _ _ _ rfl (hown.alloc _) ⟨U.heap.size, 0, none⟩ 1 1 [.int .u64 ((m1 + 1 : Nat) : Int)] rfl rfl ?a1 ?b1 (by omega) ?c1 ?d1 ?e1 _ rfl ?_))
            try case a1 =>
              intro q' u hu
              match q', hu with
              | 0, hu => simp at hu; subst hu; simp [Addr.add]
              | q' + 1, hu => simp at hu
            case b1 => first | exact rfl | (intro u hu; simp at hu; subst hu; rfl)
            case c1 => unfold maxLen; omega
            case d1 => omega
            case e1 => first | omega | (simp; omega)
            intro g1 cap1 we hown1 hgr1 hat1 hlt1
            have hal := (Below.refl U.heap.size U).alloc (Nat.le_refl _) (.cells #[.int .u64 ((m1 + 1 : Nat) : Int)] 23)
            have hBe := Below.grown (hal.mono hzu) hgr1 (by rw [nblk_alloc]; omega) fun q hq => (hown.lt q hq).1
            replace HBl2 := Lib.hid (HBl2.out.trans hBe)
            have hO1 : we.ownsRow Z.heap.size 23 1 (.slice (some ⟨g1, 0, none⟩) (m1 + 1) cap1) (m1 + 1) (wds (rfs (m1 + 1))) := by
              rw [rfs_step, wds_snoc]; exact hown1
            have hK7 := ((Kept.refl (fun k => (Value.slice A1 m1 c1).ownBlock = some k) U).alloc (.cells #[.int .u64 ((m1 + 1 : Nat) : Int)] 23)).grown hgr1 (fun k hk _ => hk)
            have HOBn := Lib.hid (show ∀ k, (Value.slice (some (⟨g1, 0, none⟩ : Addr)) (m1 + 1) cap1).ownBlock = some k → (Z.heap.size ≤ k ∧ k < V3.heap.size) ∨ G.heap.size ≤ k from fun k hk => by
              have e : g1 = k := by simpa [Value.ownBlock] using hk
              subst e
              rcases hat1 with h | h
              · exact HOB2.out _ h
              · right; have h2 := HBG2.out.size; rw [h]; omega)
            replace HBG2 := Lib.hid (HBG2.out.trans hK7 (fun k hk h => (HOB2.out k h).resolve_right (by omega)))
            have HOn := Lib.hid hO1
            clear s0 s1 s2 s3 s4 y0 y1 hal hown1 hgr1 hO1 hown hBe hK7 hat1 hlt1
            go_wp2
            go_roundw
            case rel => exact ⟨q + 1, by omega, by go_num, by have := HM1.out; show m1 + 1 = off i + (q + 1); omega, by have e := HM1.out; rw [show off i + (q + 1) = m1 + 1 by omega]; exact HOn.out, HBl2.out, HOBn.out, HBG2.out⟩
            case measure => simp [intOf]; omega
          · have hqI : ¬ (q : Int) < (n3 : Int) := by omega
            obtain hqe : q = n3 := by omega
            have HQE := Lib.hid hqe
            have hstep := HLV.out.step i him
            rw [HPP.out, HN3.out] at hstep
            have HST := Lib.hid hstep
            clear hqe hstep
            go_wp2
            go_roundw
            case rel => exact ⟨i + 1, by omega, by go_num, by have e1 := HST.out; have e2 := HQE.out; show off i + q = _; omega, by have e1 := HST.out; have e2 := HQE.out; rw [show off (i + 1) = off i + q by omega]; exact HO2.out, HBl2.out⟩
            case measure => simp [intOf]; omega
      · go_simp
        have hr1 : V3.heap.size ≤ G.heap.size := HW.out.size
        replace HW := Lib.hid (HW.out.alloc (.cells #[.int .i64 0, .slice none 0 0, .string ⟨#[]⟩, .bool false, .int .u64 0] 46))
        have HSL := Lib.hid (Blk.new G [.int .i64 0, .slice none 0 0, .string ⟨#[]⟩, .bool false, .int .u64 0] 46)
        try have HRQ := Lib.hid (show 0 < P.xs.length → ∀ a, A3 = some a → a.block ≠ G.heap.size from fun hp a ha => by
          obtain ⟨g9, off9, he9, hg9, -⟩ := HR3.out.at hp
          rw [ha] at he9; cases he9; exact Nat.ne_of_lt hg9)
        try replace HR3 := Lib.hid (HR3.out.keptF ((Kept.refl (fun _ => False) G).alloc (.cells #[.int .i64 0, .slice none 0 0, .string ⟨#[]⟩, .bool false, .int .u64 0] 46)) (fun _ _ h => h))
        generalize G.heap.size = rq at *
        have HR1 := Lib.hid hr1
        clear hr1
        generalize G.alloc (.cells #[.int .i64 0, .slice none 0 0, .string ⟨#[]⟩, .bool false, .int .u64 0] 46) = G at *
        refine hK.out _ _ ?_ (fun hHeld2 => ?_)
        · exact HW.out
        clear hK KK hHeld
        have hHeld := hHeld2
        clear hHeld2
        try simp only [Act.put, List.setIfInBounds_toArray, List.set_cons_zero, List.set_cons_succ]
        refine wpAnyH_ready (rs := [5]) (by kernel_rfl) (by simp) ?_
        refine AllReadyH.cons (o := ⟨some 21, _, _, _, _, _⟩) rfl (fun KK hK => ?_) (AllReadyH.nil)
        go_simp
        go_at_call 18
        have hsz4 := HW.out.size
        refine (HPAGE.out _ HW.out).mono ?_; rintro e G ⟨A3, c3, rfl, hR3, hA3, hK3⟩
        try have HRQ := Lib.hid (show 0 < P.xs.length → ∀ a, A3 = some a → a.block ≠ rq from fun _ a ha => by have h1 := hA3 a ha; have h2 := HSL.out.lt; omega)
        try replace HSL := Lib.hid (hK3.blk HSL.out (fun h => h))
        replace HW := Lib.hid (HW.out.trans hK3 (fun _ _ h => h))
        have HR3 := Lib.hid hR3
        have HA3 := Lib.hid (show ∀ a, A3 = some a → V3.heap.size ≤ a.block from fun a ha => Nat.le_trans hsz4 (hA3 a ha))
        clear hK3 hR3 hA3 hsz4
        refine hK.out _ _ ?_ (fun hHeld2 => ?_)
        · exact HW.out
        clear hK KK hHeld
        have hHeld := hHeld2
        clear hHeld2
        try simp only [Act.put, List.setIfInBounds_toArray, List.set_cons_zero, List.set_cons_succ]
        refine wpAnyH_ready (rs := [7]) (by kernel_rfl) (by simp) ?_
        refine AllReadyH.cons (o := ⟨none, _, _, _, _, _⟩) rfl (fun KK hK => ?_) (AllReadyH.nil)
        have hs9 := HSL.out
        have s0 := hs9.cell (i := 0) rfl
        have s1 := hs9.cell (i := 1) rfl
        have s2 := hs9.cell (i := 2) rfl
        have s3 := hs9.cell (i := 3) rfl
        have s4 := hs9.cell (i := 4) rfl
        have z0 := hs9.frozen 0
        have z1 := hs9.frozen 1
        have z2 := hs9.frozen 2
        have z3 := hs9.frozen 3
        have z4 := hs9.frozen 4
        clear hs9
        go_simp
        have hKs5 := (((((Kept.refl (fun i => i = rq) G).setCell (a := ⟨rq, 0, none⟩) (fun _ => rfl) (.int .i64 0)).setCell (a := ⟨rq, 1, none⟩) (fun _ => rfl) (.slice A3 n3 c3)).setCell (a := ⟨rq, 2, none⟩) (fun _ => rfl) (.string hi3)).setCell (a := ⟨rq, 3, none⟩) (fun _ => rfl) (.bool la3)).setCell (a := ⟨rq, 4, none⟩) (fun _ => rfl) (.int .u64 (rt3 : Int))
        replace HR3 := Lib.hid (HR3.out.keptP hKs5 (fun hp a ha e => HRQ.out hp a ha e))
        replace HW := Lib.hid ((((((HW.out).setNew HR1.out 0 (.int .i64 0)).setNew HR1.out 1 (.slice A3 n3 c3)).setNew HR1.out 2 (.string hi3)).setNew HR1.out 3 (.bool la3)).setNew HR1.out 4 (.int .u64 (rt3 : Int)))
        replace HSL := Lib.hid ((((((HSL.out).set 0 (.int .i64 0)).set 1 (.slice A3 n3 c3)).set 2 (.string hi3)).set 3 (.bool la3)).set 4 (.int .u64 (rt3 : Int)))
        clear hKs5 s0 s1 s2 s3 s4 z0 z1 z2 z3 z4
        generalize (((((G).setCell ⟨rq, 0, none⟩ (.int .i64 0)).setCell ⟨rq, 1, none⟩ (.slice A3 n3 c3)).setCell ⟨rq, 2, none⟩ (.string hi3)).setCell ⟨rq, 3, none⟩ (.bool la3)).setCell ⟨rq, 4, none⟩ (.int .u64 (rt3 : Int)) = G at *
        refine hK.out _ _ ?_ (fun hHeld2 => ?_)
        · exact HW.out
        clear hK KK hHeld
        have hHeld := hHeld2
        clear hHeld2
        try simp only [Act.put, List.setIfInBounds_toArray, List.set_cons_zero, List.set_cons_succ]
        refine wpAnyH_done (by kernel_rfl) ?_ _
        clear hHeld
        replace HBl := Lib.hid (HBl.out.trans ((HW.out.below (Nat.le_refl _) (fun _ h => h.elim)).mono hzr))
        replace HO := Lib.hid (own_kept HO.out HW.out (fun _ _ h => h))
        replace HBr := Lib.hid (HW.out.blk HBr.out (fun h => h))
        have hzG : Z.heap.size ≤ G.heap.size := Nat.le_trans hzr HW.out.size
        have HZR := Lib.hid hzG
        have HVG := Lib.hid HW.out.size
        clear HW HCL HPAGE hzr hzG
        go_wp2_with fail
        go_loopw [3, 7] (fun ov qv wr => ∃ q : Nat, q ≤ n3 ∧ qv = .int .i64 (q : Int) ∧ slLen ov = off i + q ∧ wr.ownsRow Z.heap.size 23 1 ov (off i + q) (wds (rfs (off i + q))) ∧ Below Z.heap.size Z wr ∧ (∀ k, ov.ownBlock = some k → (Z.heap.size ≤ k ∧ k < V3.heap.size) ∨ G.heap.size ≤ k) ∧ Kept (fun k => Z.heap.size ≤ k ∧ k < V3.heap.size) G wr) (fun _ qv _ => n3 - (intOf qv).toNat)
        case atStart => exact ⟨0, Nat.zero_le _, rfl, by rw [Nat.add_zero]; rfl, by rw [Nat.add_zero]; exact HO.out, HBl.out, fun k hk => .inl (HOB.out k hk), Kept.refl _ _⟩
        case round =>
          rename World => U
          obtain ⟨q, hq, rfl, hsl2, hO2, hBl2, hob2, hBG2⟩ := hrel
          have HOB2 := Lib.hid hob2
          clear hob2
          have HO2 := Lib.hid hO2
          have HBl2 := Lib.hid hBl2
          have HBG2 := Lib.hid hBG2
          have hzu := hBl2.size
          obtain ⟨A1, c1, rfl, -⟩ := words_read hO2
          have HRQV := Lib.hid (show ¬ (Z.heap.size ≤ rq ∧ rq < V3.heap.size) by have := HR1.out; omega)
          have hs9 := hBG2.blk HSL.out HRQV.out
          have s0 := hs9.cell (i := 0) rfl
          have s1 := hs9.cell (i := 1) rfl
          have s2 := hs9.cell (i := 2) rfl
          have s3 := hs9.cell (i := 3) rfl
          have s4 := hs9.cell (i := 4) rfl
          clear hs9 hO2 hBl2 hBG2 hsl2
          by_cases hqn : q < n3
          · obtain ⟨x, hx⟩ : ∃ x, P.xs[q]? = some x := ⟨_, List.getElem?_eq_getElem (by have := HN3.out; omega)⟩
            obtain ⟨g3, o3, rfl, hg3, hc3⟩ := (HR3.out.keptP HBG2.out (fun _ a ha e => by have := HA3.out a ha; omega)).at (by have := HN3.out; omega)
            obtain ⟨y0, y1⟩ := hc3 q x hx
            have hxr : (x.2 : Int) = ((off i + q + 1 : Nat) : Int) := by have := (HLV.out.slot i him q x (by rw [HPP.out]; exact hx)).2; omega
            rw [hxr] at y1
            have hqI : (q : Int) < (n3 : Int) := by omega
            obtain ⟨m1, hm1⟩ : ∃ m1, off i + q = m1 := ⟨_, rfl⟩
            rw [hm1] at y1
            rw [hm1] at HO2 HOB2
            rw [hm1]
            have HM1 := Lib.hid hm1
            have hm100 : m1 < ks.length := by have := (List.getElem?_eq_some_iff.1 (HLV.out.slot i him q x (by rw [HPP.out]; exact hx)).1).1; omega
            clear hc3 hx hxr hm1
            have hown := HO2.out
            go_wp2_with (at_builtin; go_must (refine wpList_append_lies _ rfl (.tmp 29) (.tmp 36) 50 rfl Z.heap.size 23 i0 _ 1 8 Tryz.underlying50 HI0.out HI1.out HI2.out HI3.out rfl (by decide) _ _ _ rfl (hown.alloc _) ⟨U.heap.size, 0, none⟩ 1 1 [.int .u64 ((m1 + 1 : Nat) : Int)] rfl rfl ?a1 ?b1 (by omega) ?c1 ?d1 ?e1 _ rfl ?_))
            try case a1 =>
              intro q' u hu
              match q', hu with
              | 0, hu => simp at hu; subst hu; simp [Addr.add]
              | q' + 1, hu => simp at hu
            case b1 => first | exact rfl | (intro u hu; simp at hu; subst hu; rfl)
            case c1 => unfold maxLen; omega
            case d1 => omega
            case e1 => first | omega | (simp; omega)
            intro g1 cap1 we hown1 hgr1 hat1 hlt1
            have hal := (Below.refl U.heap.size U).alloc (Nat.le_refl _) (.cells #[.int .u64 ((m1 + 1 : Nat) : Int)] 23)
            have hBe := Below.grown (hal.mono hzu) hgr1 (by rw [nblk_alloc]; omega) fun q hq => (hown.lt q hq).1
            replace HBl2 := Lib.hid (HBl2.out.trans hBe)
            have hO1 : we.ownsRow Z.heap.size 23 1 (.slice (some ⟨g1, 0, none⟩) (m1 + 1) cap1) (m1 + 1) (wds (rfs (m1 + 1))) := by
              rw [rfs_step, wds_snoc]; exact hown1
            have hK7 := ((Kept.refl (fun k => (Value.slice A1 m1 c1).ownBlock = some k) U).alloc (.cells #[.int .u64 ((m1 + 1 : Nat) : Int)] 23)).grown hgr1 (fun k hk _ => hk)
            have HOBn := Lib.hid (show ∀ k, (Value.slice (some (⟨g1, 0, none⟩ : Addr)) (m1 + 1) cap1).ownBlock = some k → (Z.heap.size ≤ k ∧ k < V3.heap.size) ∨ G.heap.size ≤ k from fun k hk => by
              have e : g1 = k := by simpa [Value.ownBlock] using hk
              subst e
              rcases hat1 with h | h
              · exact HOB2.out _ h
              · right; have h2 := HBG2.out.size; rw [h]; omega)
            replace HBG2 := Lib.hid (HBG2.out.trans hK7 (fun k hk h => (HOB2.out k h).resolve_right (by omega)))
            have HOn := Lib.hid hO1
            clear s0 s1 s2 s3 s4 y0 y1 hal hown1 hgr1 hO1 hown hBe hK7 hat1 hlt1
            go_wp2
            go_roundw
            case rel => exact ⟨q + 1, by omega, by go_num, by have := HM1.out; show m1 + 1 = off i + (q + 1); omega, by have e := HM1.out; rw [show off i + (q + 1) = m1 + 1 by omega]; exact HOn.out, HBl2.out, HOBn.out, HBG2.out⟩
            case measure => simp [intOf]; omega
          · have hqI : ¬ (q : Int) < (n3 : Int) := by omega
            obtain hqe : q = n3 := by omega
            have HQE := Lib.hid hqe
            have hstep := HLV.out.step i him
            rw [HPP.out, HN3.out] at hstep
            have HST := Lib.hid hstep
            clear hqe hstep
            go_wp2
            go_roundw
            case rel => exact ⟨i + 1, by omega, by go_num, by have e1 := HST.out; have e2 := HQE.out; show off i + q = _; omega, by have e1 := HST.out; have e2 := HQE.out; rw [show off (i + 1) = off i + q by omega]; exact HO2.out, HBl2.out⟩
            case measure => simp [intOf]; omega
    · have himI : ¬ (i : Int) < (m : Int) := by omega
      obtain rfl : i = m := by omega
      go_wp2
      go_ret
      have hal := HLV.out.all
      rw [HMM.out] at hal
      have hO5 := HO.out
      obtain ⟨A9, c9, he9, hw9⟩ := words_read hO5
      rw [hal] at he9 hw9
      rw [hal]
      have hz9 := HKz.out.size
      have hr9 := HR0.out
      have hb9 := HBl.out
      have hKz := HKz.out.trans (Below.kept hb9 (S := fun _ => False) (fun i hi h => by omega)) (fun _ _ h => h)
      have hwr : Wr V3 A0 w.heap.size (rfs ks.length) := fun hp => by
        cases he9
        obtain ⟨g7, o7, h1, h2, h3, h4⟩ := hw9 hp
        exact ⟨g7, o7, h1, h2, by omega, h4⟩
      exact ⟨A0, ⟨c0, rfl⟩, hwr, hKz⟩

end Go.Proofs.YtndadgenkmgmaaaGreat
