/-
  Where a Below goes from a page. Condition: the kit's small configurations.
-/
import Derived.Test.YtboieccjikcdiaaDesTurn
namespace Go.Proofs.Ytboieccjikcdiaa
open Go.RowKit Go.Deep Plain
set_option linter.unusedVariables false

theorem cmp_to (a b : ByteArray) (c : Int) (h : cmp a.toList b.toList = c) (w : World) :
    Calls Try.prog 77 #[.string a, .string b] w fun e w' => e = .returned (.int .i64 c) ∧ w = w' := by
  subst h; exact cmp_any a b w
set_option maxHeartbeats 2000000 in
theorem ends_1 (F : Nat) (fb fd : Int) (x nid : Nat) (rp : Value) (ph : Int) (key low : ByteArray) (last : Bool) (w : World) (h : Blk w x 88 (wkv F fb fd nid (rp) ph [.string key, .bool last, .string low])) (lv : Nat) (A : Option Addr) (c : Nat) (hi : ByteArray) (rt : Nat) (n : Nat)  :
    Calls Try.prog 61 #[.pointer (some ⟨x, 0, none⟩), .agg #[.int .i64 (lv : Int), .slice A n c, .string hi, .bool true, .int .u64 (rt : Int)]] w fun e w' => e = .returned (.bool false) ∧ Kept (fun _ => False) w w' := by
  have HX := Lib.hid h
  clear h
  go_enter Try.func61, Try.ntmps61
  go_wp2_with fail
  have hal := (Kept.refl (fun _ => False) w).alloc (.cells #[.int .i64 (lv : Int), .slice A n c, .string hi, .bool true, .int .u64 (rt : Int)] 43)
  have HK := Lib.hid hal
  have HP := Lib.hid (Blk.new w [.int .i64 (lv : Int), .slice A n c, .string hi, .bool true, .int .u64 (rt : Int)] 43)
  replace HX := Lib.hid (hal.blk HX.out (fun h => h))
  clear hal
  generalize w.heap.size = r0 at HP ⊢
  generalize w.alloc (.cells #[.int .i64 (lv : Int), .slice A n c, .string hi, .bool true, .int .u64 (rt : Int)] 43) = W at *
  have HW := Lib.hid (Kept.refl (fun _ => False) W)
  refine qregion (fun w' => Kept (fun _ => False) W w') (by kernel_rfl) (by kernel_rfl) HW.out.drew ?_
  refine qstep (o := ⟨some 5, _, _, _, _, _⟩) (v := ?_) (by rfl) (fun wq hSw => ?_) ?_
  rotate_left
  · (go_simp; try with_reducible rfl)
  try simp only [Act.put, List.setIfInBounds_toArray, List.set_cons_zero, List.set_cons_succ]
  refine qstep (o := ⟨some 6, _, _, _, _, _⟩) (v := ?_) (by rfl) (fun wq hSw => ?_) ?_
  rotate_left
  · (have hx9 := hSw.blk HX.out (fun h => h); have x13 := hx9.cell (i := 13) rfl; have x14 := hx9.cell (i := 14) rfl; have hp9 := hSw.blk HP.out (fun h => h); have y2 := hp9.cell (i := 2) rfl; have y3 := hp9.cell (i := 3) rfl; clear hx9 hp9; go_simp; try with_reducible rfl)
  try simp only [Act.put, List.setIfInBounds_toArray, List.set_cons_zero, List.set_cons_succ]
  refine qstep (o := ⟨some 7, _, _, _, _, _⟩) (v := .bool false) (by rfl) (fun wq hSw => ?_) ?_
  · (go_simp; try first | (with_reducible rfl) | (simp; omega) | (intros; omega) | simp [*])
  try simp only [Act.put, List.setIfInBounds_toArray, List.set_cons_zero, List.set_cons_succ]
  refine qstep (o := ⟨some 8, _, _, _, _, _⟩) (v := .bool false) (by rfl) (fun wq hSw => ?_) ?_
  · (go_simp; try first | (with_reducible rfl) | (simp; omega) | (intros; omega) | simp [*])
  try simp only [Act.put, List.setIfInBounds_toArray, List.set_cons_zero, List.set_cons_succ]
  go_big_quiet_skip
  try simp only [Act.put, List.setIfInBounds_toArray, List.set_cons_zero, List.set_cons_succ]
  go_big_quiet_skip
  try simp only [Act.put, List.setIfInBounds_toArray, List.set_cons_zero, List.set_cons_succ]
  go_big_quiet_skip
  try simp only [Act.put, List.setIfInBounds_toArray, List.set_cons_zero, List.set_cons_succ]
  go_big_quiet_skip
  try simp only [Act.put, List.setIfInBounds_toArray, List.set_cons_zero, List.set_cons_succ]
  go_big_quiet_skip
  try simp only [Act.put, List.setIfInBounds_toArray, List.set_cons_zero, List.set_cons_succ]
  go_big_quiet_skip
  try simp only [Act.put, List.setIfInBounds_toArray, List.set_cons_zero, List.set_cons_succ]
  go_big_quiet_skip
  try simp only [Act.put, List.setIfInBounds_toArray, List.set_cons_zero, List.set_cons_succ]
  go_big_quiet_skip
  try simp only [Act.put, List.setIfInBounds_toArray, List.set_cons_zero, List.set_cons_succ]
  go_big_quiet_skip
  try simp only [Act.put, List.setIfInBounds_toArray, List.set_cons_zero, List.set_cons_succ]
  go_big_quiet_skip
  try simp only [Act.put, List.setIfInBounds_toArray, List.set_cons_zero, List.set_cons_succ]
  go_big_quiet_skip
  try simp only [Act.put, List.setIfInBounds_toArray, List.set_cons_zero, List.set_cons_succ]
  go_big_quiet_skip
  try simp only [Act.put, List.setIfInBounds_toArray, List.set_cons_zero, List.set_cons_succ]
  go_big_quiet_skip
  try simp only [Act.put, List.setIfInBounds_toArray, List.set_cons_zero, List.set_cons_succ]
  go_big_quiet_skip
  try simp only [Act.put, List.setIfInBounds_toArray, List.set_cons_zero, List.set_cons_succ]
  refine qstep (o := ⟨some 23, _, _, _, _, _⟩) (v := .bool false) (by rfl) (fun wq hSw => ?_) ?_
  · (go_simp; try first | (with_reducible rfl) | (simp; omega) | (intros; omega) | simp [*])
  try simp only [Act.put, List.setIfInBounds_toArray, List.set_cons_zero, List.set_cons_succ]
  refine qstep (o := ⟨some 4, _, _, _, _, _⟩) (v := .bool false) (by rfl) (fun wq hSw => ?_) ?_
  · (go_simp; try first | (with_reducible rfl) | (simp; omega) | (intros; omega) | simp [*])
  try simp only [Act.put, List.setIfInBounds_toArray, List.set_cons_zero, List.set_cons_succ]
  refine wpQuiet_nil ?_
  intro wz hHeld
  replace HW := Lib.hid hHeld
  clear hHeld
  go_wp2
  go_ret
  exact ⟨rfl, HK.out.trans HW.out (fun _ _ h => h)⟩

set_option maxHeartbeats 2000000 in
theorem ends_2 (F : Nat) (fb fd : Int) (x nid : Nat) (rp : Value) (ph : Int) (key low : ByteArray) (last : Bool) (w : World) (h : Blk w x 88 (wkv F fb fd nid (rp) ph [.string key, .bool true, .string low])) (lv : Nat) (A : Option Addr) (c : Nat) (hi : ByteArray) (rt : Nat) (n : Nat)  :
    Calls Try.prog 61 #[.pointer (some ⟨x, 0, none⟩), .agg #[.int .i64 (lv : Int), .slice A n c, .string hi, .bool false, .int .u64 (rt : Int)]] w fun e w' => e = .returned (.bool true) ∧ Kept (fun _ => False) w w' := by
  have HX := Lib.hid h
  clear h
  go_enter Try.func61, Try.ntmps61
  go_wp2_with fail
  have hal := (Kept.refl (fun _ => False) w).alloc (.cells #[.int .i64 (lv : Int), .slice A n c, .string hi, .bool false, .int .u64 (rt : Int)] 43)
  have HK := Lib.hid hal
  have HP := Lib.hid (Blk.new w [.int .i64 (lv : Int), .slice A n c, .string hi, .bool false, .int .u64 (rt : Int)] 43)
  replace HX := Lib.hid (hal.blk HX.out (fun h => h))
  clear hal
  generalize w.heap.size = r0 at HP ⊢
  generalize w.alloc (.cells #[.int .i64 (lv : Int), .slice A n c, .string hi, .bool false, .int .u64 (rt : Int)] 43) = W at *
  have HW := Lib.hid (Kept.refl (fun _ => False) W)
  refine qregion (fun w' => Kept (fun _ => False) W w') (by kernel_rfl) (by kernel_rfl) HW.out.drew ?_
  refine qstep (o := ⟨some 5, _, _, _, _, _⟩) (v := ?_) (by rfl) (fun wq hSw => ?_) ?_
  rotate_left
  · (go_simp; try with_reducible rfl)
  try simp only [Act.put, List.setIfInBounds_toArray, List.set_cons_zero, List.set_cons_succ]
  refine qstep (o := ⟨some 6, _, _, _, _, _⟩) (v := ?_) (by rfl) (fun wq hSw => ?_) ?_
  rotate_left
  · (have hx9 := hSw.blk HX.out (fun h => h); have x13 := hx9.cell (i := 13) rfl; have x14 := hx9.cell (i := 14) rfl; have hp9 := hSw.blk HP.out (fun h => h); have y2 := hp9.cell (i := 2) rfl; have y3 := hp9.cell (i := 3) rfl; clear hx9 hp9; go_simp; try with_reducible rfl)
  try simp only [Act.put, List.setIfInBounds_toArray, List.set_cons_zero, List.set_cons_succ]
  refine qstep (o := ⟨some 7, _, _, _, _, _⟩) (v := .bool true) (by rfl) (fun wq hSw => ?_) ?_
  · (go_simp; try first | (with_reducible rfl) | (simp; omega) | (intros; omega) | simp [*])
  try simp only [Act.put, List.setIfInBounds_toArray, List.set_cons_zero, List.set_cons_succ]
  refine qstep (o := ⟨some 8, _, _, _, _, _⟩) (v := .bool true) (by rfl) (fun wq hSw => ?_) ?_
  · (go_simp; try first | (with_reducible rfl) | (simp; omega) | (intros; omega) | simp [*])
  try simp only [Act.put, List.setIfInBounds_toArray, List.set_cons_zero, List.set_cons_succ]
  refine qstep (o := ⟨some 9, _, _, _, _, _⟩) (v := ?_) (by rfl) (fun wq hSw => ?_) ?_
  rotate_left
  · (go_simp; try with_reducible rfl)
  try simp only [Act.put, List.setIfInBounds_toArray, List.set_cons_zero, List.set_cons_succ]
  refine qstep (o := ⟨some 10, _, _, _, _, _⟩) (v := ?_) (by rfl) (fun wq hSw => ?_) ?_
  rotate_left
  · (go_simp; try with_reducible rfl)
  try simp only [Act.put, List.setIfInBounds_toArray, List.set_cons_zero, List.set_cons_succ]
  refine qstep (o := ⟨some 11, _, _, _, _, _⟩) (v := ?_) (by rfl) (fun wq hSw => ?_) ?_
  rotate_left
  · (go_simp; try with_reducible rfl)
  try simp only [Act.put, List.setIfInBounds_toArray, List.set_cons_zero, List.set_cons_succ]
  refine qstep (o := ⟨some 12, _, _, _, _, _⟩) (v := .bool true) (by rfl) (fun wq hSw => ?_) ?_
  · (have hx9 := hSw.blk HX.out (fun h => h); have x13 := hx9.cell (i := 13) rfl; have x14 := hx9.cell (i := 14) rfl; have hp9 := hSw.blk HP.out (fun h => h); have y2 := hp9.cell (i := 2) rfl; have y3 := hp9.cell (i := 3) rfl; clear hx9 hp9; go_simp; try first | (with_reducible rfl) | (simp; omega) | (intros; omega) | simp [*])
  try simp only [Act.put, List.setIfInBounds_toArray, List.set_cons_zero, List.set_cons_succ]
  refine qstep (o := ⟨some 13, _, _, _, _, _⟩) (v := .bool true) (by rfl) (fun wq hSw => ?_) ?_
  · (go_simp; try first | (with_reducible rfl) | (simp; omega) | (intros; omega) | simp [*])
  try simp only [Act.put, List.setIfInBounds_toArray, List.set_cons_zero, List.set_cons_succ]
  go_big_quiet_skip
  try simp only [Act.put, List.setIfInBounds_toArray, List.set_cons_zero, List.set_cons_succ]
  go_big_quiet_skip
  try simp only [Act.put, List.setIfInBounds_toArray, List.set_cons_zero, List.set_cons_succ]
  go_big_quiet_skip
  try simp only [Act.put, List.setIfInBounds_toArray, List.set_cons_zero, List.set_cons_succ]
  go_big_quiet_skip
  try simp only [Act.put, List.setIfInBounds_toArray, List.set_cons_zero, List.set_cons_succ]
  go_big_quiet_skip
  try simp only [Act.put, List.setIfInBounds_toArray, List.set_cons_zero, List.set_cons_succ]
  go_big_quiet_skip
  try simp only [Act.put, List.setIfInBounds_toArray, List.set_cons_zero, List.set_cons_succ]
  go_big_quiet_skip
  try simp only [Act.put, List.setIfInBounds_toArray, List.set_cons_zero, List.set_cons_succ]
  go_big_quiet_skip
  try simp only [Act.put, List.setIfInBounds_toArray, List.set_cons_zero, List.set_cons_succ]
  refine qstep (o := ⟨some 22, _, _, _, _, _⟩) (v := .bool true) (by rfl) (fun wq hSw => ?_) ?_
  · (go_simp; try first | (with_reducible rfl) | (simp; omega) | (intros; omega) | simp [*])
  try simp only [Act.put, List.setIfInBounds_toArray, List.set_cons_zero, List.set_cons_succ]
  refine qstep (o := ⟨some 23, _, _, _, _, _⟩) (v := .bool true) (by rfl) (fun wq hSw => ?_) ?_
  · (go_simp; try first | (with_reducible rfl) | (simp; omega) | (intros; omega) | simp [*])
  try simp only [Act.put, List.setIfInBounds_toArray, List.set_cons_zero, List.set_cons_succ]
  refine qstep (o := ⟨some 4, _, _, _, _, _⟩) (v := .bool true) (by rfl) (fun wq hSw => ?_) ?_
  · (go_simp; try first | (with_reducible rfl) | (simp; omega) | (intros; omega) | simp [*])
  try simp only [Act.put, List.setIfInBounds_toArray, List.set_cons_zero, List.set_cons_succ]
  refine wpQuiet_nil ?_
  intro wz hHeld
  replace HW := Lib.hid hHeld
  clear hHeld
  go_wp2
  go_ret
  exact ⟨rfl, HK.out.trans HW.out (fun _ _ h => h)⟩

set_option maxHeartbeats 2000000 in
theorem ends_3 (F : Nat) (fb fd : Int) (x nid : Nat) (rp : Value) (ph : Int) (key low : ByteArray) (last : Bool) (w : World) (h : Blk w x 88 (wkv F fb fd nid (rp) ph [.string key, .bool false, .string low])) (lv : Nat) (A : Option Addr) (c : Nat) (hi : ByteArray) (rt : Nat) (n : Nat) (r : Bool) (cc : Int) (hcc : cmp hi.toList key.toList = cc) (hr : decide (cc < 0) = r) :
    Calls Try.prog 61 #[.pointer (some ⟨x, 0, none⟩), .agg #[.int .i64 (lv : Int), .slice A n c, .string hi, .bool false, .int .u64 (rt : Int)]] w fun e w' => e = .returned (.bool r) ∧ Kept (fun _ => False) w w' := by
  have HX := Lib.hid h
  clear h
  go_enter Try.func61, Try.ntmps61
  go_wp2_with fail
  have hal := (Kept.refl (fun _ => False) w).alloc (.cells #[.int .i64 (lv : Int), .slice A n c, .string hi, .bool false, .int .u64 (rt : Int)] 43)
  have HK := Lib.hid hal
  have HP := Lib.hid (Blk.new w [.int .i64 (lv : Int), .slice A n c, .string hi, .bool false, .int .u64 (rt : Int)] 43)
  replace HX := Lib.hid (hal.blk HX.out (fun h => h))
  clear hal
  generalize w.heap.size = r0 at HP ⊢
  generalize w.alloc (.cells #[.int .i64 (lv : Int), .slice A n c, .string hi, .bool false, .int .u64 (rt : Int)] 43) = W at *
  have HW := Lib.hid (Kept.refl (fun _ => False) W)
  refine qregion (fun w' => Kept (fun _ => False) W w') (by kernel_rfl) (by kernel_rfl) HW.out.drew ?_
  refine qstep (o := ⟨some 5, _, _, _, _, _⟩) (v := ?_) (by rfl) (fun wq hSw => ?_) ?_
  rotate_left
  · (go_simp; try with_reducible rfl)
  try simp only [Act.put, List.setIfInBounds_toArray, List.set_cons_zero, List.set_cons_succ]
  refine qstep (o := ⟨some 6, _, _, _, _, _⟩) (v := ?_) (by rfl) (fun wq hSw => ?_) ?_
  rotate_left
  · (have hx9 := hSw.blk HX.out (fun h => h); have x13 := hx9.cell (i := 13) rfl; have x14 := hx9.cell (i := 14) rfl; have hp9 := hSw.blk HP.out (fun h => h); have y2 := hp9.cell (i := 2) rfl; have y3 := hp9.cell (i := 3) rfl; clear hx9 hp9; go_simp; try with_reducible rfl)
  try simp only [Act.put, List.setIfInBounds_toArray, List.set_cons_zero, List.set_cons_succ]
  refine qstep (o := ⟨some 7, _, _, _, _, _⟩) (v := .bool true) (by rfl) (fun wq hSw => ?_) ?_
  · (go_simp; try first | (with_reducible rfl) | (simp; omega) | (intros; omega) | simp [*])
  try simp only [Act.put, List.setIfInBounds_toArray, List.set_cons_zero, List.set_cons_succ]
  refine qstep (o := ⟨some 8, _, _, _, _, _⟩) (v := .bool true) (by rfl) (fun wq hSw => ?_) ?_
  · (go_simp; try first | (with_reducible rfl) | (simp; omega) | (intros; omega) | simp [*])
  try simp only [Act.put, List.setIfInBounds_toArray, List.set_cons_zero, List.set_cons_succ]
  refine qstep (o := ⟨some 9, _, _, _, _, _⟩) (v := ?_) (by rfl) (fun wq hSw => ?_) ?_
  rotate_left
  · (go_simp; try with_reducible rfl)
  try simp only [Act.put, List.setIfInBounds_toArray, List.set_cons_zero, List.set_cons_succ]
  refine qstep (o := ⟨some 10, _, _, _, _, _⟩) (v := ?_) (by rfl) (fun wq hSw => ?_) ?_
  rotate_left
  · (go_simp; try with_reducible rfl)
  try simp only [Act.put, List.setIfInBounds_toArray, List.set_cons_zero, List.set_cons_succ]
  refine qstep (o := ⟨some 11, _, _, _, _, _⟩) (v := ?_) (by rfl) (fun wq hSw => ?_) ?_
  rotate_left
  · (go_simp; try with_reducible rfl)
  try simp only [Act.put, List.setIfInBounds_toArray, List.set_cons_zero, List.set_cons_succ]
  refine qstep (o := ⟨some 12, _, _, _, _, _⟩) (v := .bool false) (by rfl) (fun wq hSw => ?_) ?_
  · (have hx9 := hSw.blk HX.out (fun h => h); have x13 := hx9.cell (i := 13) rfl; have x14 := hx9.cell (i := 14) rfl; have hp9 := hSw.blk HP.out (fun h => h); have y2 := hp9.cell (i := 2) rfl; have y3 := hp9.cell (i := 3) rfl; clear hx9 hp9; go_simp; try first | (with_reducible rfl) | (simp; omega) | (intros; omega) | simp [*])
  try simp only [Act.put, List.setIfInBounds_toArray, List.set_cons_zero, List.set_cons_succ]
  refine qstep (o := ⟨some 13, _, _, _, _, _⟩) (v := .bool false) (by rfl) (fun wq hSw => ?_) ?_
  · (go_simp; try first | (with_reducible rfl) | (simp; omega) | (intros; omega) | simp [*])
  try simp only [Act.put, List.setIfInBounds_toArray, List.set_cons_zero, List.set_cons_succ]
  refine qstep (o := ⟨some 14, _, _, _, _, _⟩) (v := ?_) (by rfl) (fun wq hSw => ?_) ?_
  rotate_left
  · (go_simp; try with_reducible rfl)
  try simp only [Act.put, List.setIfInBounds_toArray, List.set_cons_zero, List.set_cons_succ]
  refine qstep (o := ⟨some 15, _, _, _, _, _⟩) (v := ?_) (by rfl) (fun wq hSw => ?_) ?_
  rotate_left
  · (have hx9 := hSw.blk HX.out (fun h => h); have x13 := hx9.cell (i := 13) rfl; have x14 := hx9.cell (i := 14) rfl; have hp9 := hSw.blk HP.out (fun h => h); have y2 := hp9.cell (i := 2) rfl; have y3 := hp9.cell (i := 3) rfl; clear hx9 hp9; go_simp; try with_reducible rfl)
  try simp only [Act.put, List.setIfInBounds_toArray, List.set_cons_zero, List.set_cons_succ]
  refine qstep (o := ⟨some 16, _, _, _, _, _⟩) (v := ?_) (by rfl) (fun wq hSw => ?_) ?_
  rotate_left
  · (go_simp; try with_reducible rfl)
  try simp only [Act.put, List.setIfInBounds_toArray, List.set_cons_zero, List.set_cons_succ]
  refine qstep (o := ⟨some 17, _, _, _, _, _⟩) (v := ?_) (by rfl) (fun wq hSw => ?_) ?_
  rotate_left
  · (go_simp; try with_reducible rfl)
  try simp only [Act.put, List.setIfInBounds_toArray, List.set_cons_zero, List.set_cons_succ]
  refine qstep (o := ⟨some 18, _, _, _, _, _⟩) (v := ?_) (by rfl) (fun wq hSw => ?_) ?_
  rotate_left
  · (go_simp; try with_reducible rfl)
  try simp only [Act.put, List.setIfInBounds_toArray, List.set_cons_zero, List.set_cons_succ]
  refine qstep (o := ⟨some 19, _, _, _, _, _⟩) (v := ?_) (by rfl) (fun wq hSw => ?_) ?_
  rotate_left
  · (have hx9 := hSw.blk HX.out (fun h => h); have x13 := hx9.cell (i := 13) rfl; have x14 := hx9.cell (i := 14) rfl; have hp9 := hSw.blk HP.out (fun h => h); have y2 := hp9.cell (i := 2) rfl; have y3 := hp9.cell (i := 3) rfl; clear hx9 hp9; go_simp; try with_reducible rfl)
  try simp only [Act.put, List.setIfInBounds_toArray, List.set_cons_zero, List.set_cons_succ]
  refine qcall (o := ⟨some 20, _, _, _, _, _⟩) (v := .int .i64 cc) (by rfl) (fun wq hSw => ?_) (fun wq hSw => Calls.mono (cmp_to hi key cc hcc _) ?_) ?_
  · (go_simp; try with_reducible rfl)
  · rintro e w9 ⟨rfl, rfl⟩; exact ⟨rfl, hSw⟩
  try simp only [Act.put, List.setIfInBounds_toArray, List.set_cons_zero, List.set_cons_succ]
  refine qstep (o := ⟨some 21, _, _, _, _, _⟩) (v := .bool r) (by rfl) (fun wq hSw => ?_) ?_
  · (go_simp; try first | (with_reducible rfl) | (simp; omega) | (intros; omega) | simp [*])
  try simp only [Act.put, List.setIfInBounds_toArray, List.set_cons_zero, List.set_cons_succ]
  refine qstep (o := ⟨some 22, _, _, _, _, _⟩) (v := .bool r) (by rfl) (fun wq hSw => ?_) ?_
  · (go_simp; try first | (with_reducible rfl) | (simp; omega) | (intros; omega) | simp [*])
  try simp only [Act.put, List.setIfInBounds_toArray, List.set_cons_zero, List.set_cons_succ]
  refine qstep (o := ⟨some 23, _, _, _, _, _⟩) (v := .bool r) (by rfl) (fun wq hSw => ?_) ?_
  · (go_simp; try first | (with_reducible rfl) | (simp; omega) | (intros; omega) | simp [*])
  try simp only [Act.put, List.setIfInBounds_toArray, List.set_cons_zero, List.set_cons_succ]
  refine qstep (o := ⟨some 4, _, _, _, _, _⟩) (v := .bool r) (by rfl) (fun wq hSw => ?_) ?_
  · (go_simp; try first | (with_reducible rfl) | (simp; omega) | (intros; omega) | simp [*])
  try simp only [Act.put, List.setIfInBounds_toArray, List.set_cons_zero, List.set_cons_succ]
  refine wpQuiet_nil ?_
  intro wz hHeld
  replace HW := Lib.hid hHeld
  clear hHeld
  go_wp2
  go_ret
  exact ⟨rfl, HK.out.trans HW.out (fun _ _ h => h)⟩

theorem ends_any (F : Nat) (fb fd : Int) (x nid : Nat) (rp : Value) (ph : Int) (key low : ByteArray) (last : Bool) (w : World) (h : Blk w x 88 (wkv F fb fd nid (rp) ph [.string key, .bool last, .string low])) (lv : Nat) (A : Option Addr) (c : Nat) (hi : ByteArray) (la : Bool) (rt : Nat) (n : Nat) (r : Bool) (hr : (!la && (last || ltB hi.toList key.toList)) = r) :
    Calls Try.prog 61 #[.pointer (some ⟨x, 0, none⟩), .agg #[.int .i64 (lv : Int), .slice A n c, .string hi, .bool la, .int .u64 (rt : Int)]] w fun e w' => e = .returned (.bool r) ∧ Kept (fun _ => False) w w' := by
  subst hr
  cases la
  · cases last
    · have := ends_3 F fb fd x nid rp ph key low false w h lv A c hi rt n (ltB hi.toList key.toList) _ rfl cmp_lt_of
      simpa using this
    · exact ends_2 F fb fd x nid rp ph key low true w h lv A c hi rt n
  · exact ends_1 F fb fd x nid rp ph key low last w h lv A c hi rt n
set_option maxHeartbeats 2000000 in
theorem bgoTo_some (F : Nat) (h4 : 4 ≤ F) (h6 : F ≤ 6) (fb fd : Int) (hd : Reach3 10 fb fd) (x nid : Nat) (rp : Value) (ph : Int) (key low : ByteArray) (last : Bool) (w : World) (h : Blk w x 88 (wkv F fb fd nid (rp) ph [.string key, .bool last, .string low])) (m : Nat) (lo2 : ByteArray) (hn0 : m ≠ 0) :
    Calls Try.prog 62 #[.pointer (some ⟨x, 0, none⟩), .int .u64 (m : Int), .string lo2] w fun e w' => ∃ q, e = .returned (.tuple #[]) ∧ Blk w' x 88 (wkv F fb fd m (.pointer (some ⟨q, 0, none⟩)) 1 [.string key, .bool last, .string lo2]) ∧ Con (fun i => i = q) w' 1 2 100 100 200 F 1000 10 fb fd q 121 m cs0 [.int .u64 0, .int .i64 0] ∧ w.heap.size ≤ q ∧ Kept (fun i => i = x) w w' := by
  have hx0 := h.cell (i := 15) rfl
  have hz0 := h.frozen 15
  have HX := Lib.hid (h.set 15 (.string lo2))
  have HK := Lib.hid ((Kept.refl (fun i => i = x) w).setCell (a := ⟨x, 15, none⟩) (fun _ => rfl) (.string lo2))
  clear h
  go_enter Try.func62, Try.ntmps62
  go_wp2_with fail
  clear hx0 hz0
  generalize w.setCell ⟨x, 15, none⟩ (.string lo2) = W at *
  refine (goTo_some F h4 h6 fb fd hd x 88 nid rp ph [.string key, .bool last, .string lo2] _ HX.out m hn0).mono ?_; rintro e w3 ⟨q, rfl, hB3, hC3, hq3, hK3⟩
  have HB3 := Lib.hid hB3
  have HC3 := Lib.hid hC3
  have HQ := Lib.hid (Nat.le_trans HK.out.size hq3)
  have HK3 := Lib.hid (HK.out.trans hK3 (fun _ _ h => h))
  clear hB3 hC3 hq3 hK3
  go_wp2
  go_end0
  exact ⟨q, rfl, HB3.out, HC3.out, HQ.out, HK3.out⟩

set_option maxHeartbeats 2000000 in
theorem bturn_right (F : Nat) (h4 : 4 ≤ F) (h6 : F ≤ 6) (fb fd : Int) (hd : Reach3 10 fb fd) (x nid : Nat) (rp : Value) (ph : Int) (key low : ByteArray) (last : Bool) (w : World) (h : Blk w x 88 (wkv F fb fd nid (rp) ph [.string key, .bool last, .string low])) (lv : Nat) (A : Option Addr) (c : Nat) (hi : ByteArray) (la : Bool) (rt : Nat) (xs : List Sl) (n : Nat) (hn : xs.length = n) (h40 : n ≤ 1099511627776) (hR : Rs w A c xs) (ha : Asc xs) (hee : (!la && (last || ltB hi.toList key.toList)) = true) (hn0 : rt ≠ 0) :
    Calls Try.prog 43 #[.pointer (some ⟨x, 0, none⟩), .agg #[.int .i64 (lv : Int), .slice A n c, .string hi, .bool la, .int .u64 (rt : Int)]] w fun e w' => ∃ q, e = .returned (.tuple #[]) ∧ Blk w' x 88 (wkv F fb fd rt (.pointer (some ⟨q, 0, none⟩)) 1 [.string key, .bool last, .string hi]) ∧ Con (fun i => i = q) w' 1 2 100 100 200 F 1000 10 fb fd q 121 rt cs0 [.int .u64 0, .int .i64 0] ∧ w.heap.size ≤ q ∧ Kept (fun i => i = x) w w' := by
  have hp9 := Blk.new w [.int .i64 (lv : Int), .slice A n c, .string hi, .bool la, .int .u64 (rt : Int)] 43
  have y0 := hp9.cell (i := 0) rfl
  have y1 := hp9.cell (i := 1) rfl
  have y2 := hp9.cell (i := 2) rfl
  have y3 := hp9.cell (i := 3) rfl
  have y4 := hp9.cell (i := 4) rfl
  clear hp9
  have HX := Lib.hid h
  have HR := Lib.hid hR
  have HA := Lib.hid ha
  clear h hR ha
  go_enter Try.func43, Try.ntmps43
  go_wp2_with fail
  have hal := (Kept.refl (fun _ => False) w).alloc (.cells #[.int .i64 (lv : Int), .slice A n c, .string hi, .bool la, .int .u64 (rt : Int)] 43)
  have HK := Lib.hid hal
  have HP := Lib.hid (Blk.new w [.int .i64 (lv : Int), .slice A n c, .string hi, .bool la, .int .u64 (rt : Int)] 43)
  replace HX := Lib.hid (hal.blk HX.out (fun h => h))
  replace HR := Lib.hid (HR.out.keptF hal (fun _ _ h => h))
  clear hal
  generalize hr0 : w.heap.size = r0 at HP ⊢
  have HR0 := Lib.hid hr0
  clear hr0
  generalize w.alloc (.cells #[.int .i64 (lv : Int), .slice A n c, .string hi, .bool la, .int .u64 (rt : Int)] 43) = W at *
  have HW := Lib.hid (Kept.refl (fun _ => False) W)
  clear y0 y1 y2 y3 y4
  refine (ends_any F fb fd x nid rp ph key low last _ HX.out lv A c hi la rt n true hee).mono ?_; rintro e wz ⟨rfl, hKz⟩
  replace HW := Lib.hid hKz
  clear hKz
  have hp9 := HW.out.blk HP.out (fun h => h)
  have y0 := hp9.cell (i := 0) rfl
  have y1 := hp9.cell (i := 1) rfl
  have y2 := hp9.cell (i := 2) rfl
  have y3 := hp9.cell (i := 3) rfl
  have y4 := hp9.cell (i := 4) rfl
  clear hp9
  go_wp2_with fail
  clear y0 y1 y2 y3 y4
  refine (bgoTo_some F h4 h6 fb fd hd x nid rp ph key low last _ (HW.out.blk HX.out (fun h => h)) rt hi hn0).mono ?_; rintro e w3 ⟨q, rfl, hB3, hC3, hq3, hK3⟩
  have HB3 := Lib.hid hB3
  have HC3 := Lib.hid hC3
  have HQ := Lib.hid (Nat.le_trans (Nat.le_trans HK.out.size HW.out.size) hq3)
  have HK3 := Lib.hid (((HK.out.trans HW.out (fun _ _ h => h)).mono (T := fun i => i = x) (fun _ h => h.elim)).trans hK3 (fun _ _ h => h))
  clear hB3 hC3 hq3 hK3
  go_wp2
  go_end0
  exact ⟨q, rfl, HB3.out, HC3.out, HQ.out, HK3.out⟩

set_option maxHeartbeats 2000000 in
theorem bturn_here (F : Nat) (h4 : 4 ≤ F) (h6 : F ≤ 6) (fb fd : Int) (hd : Reach3 10 fb fd) (x nid : Nat) (rp : Value) (ph : Int) (key low : ByteArray) (last : Bool) (w : World) (h : Blk w x 88 (wkv F fb fd nid (rp) ph [.string key, .bool last, .string low])) (lv : Nat) (A : Option Addr) (c : Nat) (hi : ByteArray) (la : Bool) (rt : Nat) (xs : List Sl) (n : Nat) (hn : xs.length = n) (h40 : n ≤ 1099511627776) (hR : Rs w A c xs) (ha : Asc xs) (hee : (!la && (last || ltB hi.toList key.toList)) = false) (hl0 : lv = 0) :
    Calls Try.prog 43 #[.pointer (some ⟨x, 0, none⟩), .agg #[.int .i64 (lv : Int), .slice A n c, .string hi, .bool la, .int .u64 (rt : Int)]] w fun e w' => e = .returned (.tuple #[]) ∧ Blk w' x 88 (wkv F fb fd nid (rp) 2 [.string key, .bool last, .string low]) ∧ Kept (fun i => i = x) w w' := by
  have p1 : decide ((0 : Int) < (lv : Int)) = false := decide_eq_false (by omega)
  have p2 : lv ≤ 0 := by omega
  clear hl0
  have hp9 := Blk.new w [.int .i64 (lv : Int), .slice A n c, .string hi, .bool la, .int .u64 (rt : Int)] 43
  have y0 := hp9.cell (i := 0) rfl
  have y1 := hp9.cell (i := 1) rfl
  have y2 := hp9.cell (i := 2) rfl
  have y3 := hp9.cell (i := 3) rfl
  have y4 := hp9.cell (i := 4) rfl
  clear hp9
  have HX := Lib.hid h
  have HR := Lib.hid hR
  have HA := Lib.hid ha
  clear h hR ha
  go_enter Try.func43, Try.ntmps43
  go_wp2_with fail
  have hal := (Kept.refl (fun _ => False) w).alloc (.cells #[.int .i64 (lv : Int), .slice A n c, .string hi, .bool la, .int .u64 (rt : Int)] 43)
  have HK := Lib.hid hal
  have HP := Lib.hid (Blk.new w [.int .i64 (lv : Int), .slice A n c, .string hi, .bool la, .int .u64 (rt : Int)] 43)
  replace HX := Lib.hid (hal.blk HX.out (fun h => h))
  replace HR := Lib.hid (HR.out.keptF hal (fun _ _ h => h))
  clear hal
  generalize hr0 : w.heap.size = r0 at HP ⊢
  have HR0 := Lib.hid hr0
  clear hr0
  generalize w.alloc (.cells #[.int .i64 (lv : Int), .slice A n c, .string hi, .bool la, .int .u64 (rt : Int)] 43) = W at *
  have HW := Lib.hid (Kept.refl (fun _ => False) W)
  clear y0 y1 y2 y3 y4
  refine (ends_any F fb fd x nid rp ph key low last _ HX.out lv A c hi la rt n false hee).mono ?_; rintro e wz ⟨rfl, hKz⟩
  replace HW := Lib.hid hKz
  clear hKz
  have hp9 := HW.out.blk HP.out (fun h => h)
  have y0 := hp9.cell (i := 0) rfl
  have y1 := hp9.cell (i := 1) rfl
  have y2 := hp9.cell (i := 2) rfl
  have y3 := hp9.cell (i := 3) rfl
  have y4 := hp9.cell (i := 4) rfl
  clear hp9
  go_wp2_with fail
  clear y0 y1 y2 y3 y4
  refine (arrive_any F fb fd x 88 nid rp ph [.string key, .bool last, .string low] _ (HW.out.blk HX.out (fun h => h))).mono ?_; rintro e w3 ⟨rfl, hB3, hK3⟩
  have HB3 := Lib.hid hB3
  have HK3 := Lib.hid (((HK.out.trans HW.out (fun _ _ h => h)).mono (T := fun i => i = x) (fun _ h => h.elim)).trans hK3 (fun _ _ h => h))
  clear hB3 hK3
  go_wp2
  go_end0
  exact ⟨rfl, HB3.out, HK3.out⟩

set_option maxHeartbeats 4000000 in
theorem bturn_down (F : Nat) (h4 : 4 ≤ F) (h6 : F ≤ 6) (fb fd : Int) (hd : Reach3 10 fb fd) (x nid : Nat) (rp : Value) (ph : Int) (key low : ByteArray) (last : Bool) (w : World) (h : Blk w x 88 (wkv F fb fd nid (rp) ph [.string key, .bool last, .string low])) (lv : Nat) (A : Option Addr) (c : Nat) (hi : ByteArray) (la : Bool) (rt : Nat) (xs : List Sl) (n : Nat) (hn : xs.length = n) (h40 : n ≤ 1099511627776) (hR : Rs w A c xs) (ha : Asc xs) (hee : (!la && (last || ltB hi.toList key.toList)) = false) (hl0 : 0 < lv) (s : ByteArray) (r : Nat) (bb : Bool) (hnr : near (before xs (if last = true then n else cnt key xs)) = (s, r, bb)) (hn0 : r ≠ 0) :
    Calls Try.prog 43 #[.pointer (some ⟨x, 0, none⟩), .agg #[.int .i64 (lv : Int), .slice A n c, .string hi, .bool la, .int .u64 (rt : Int)]] w fun e w' => ∃ q, e = .returned (.tuple #[]) ∧ Blk w' x 88 (wkv F fb fd r (.pointer (some ⟨q, 0, none⟩)) 1 [.string key, .bool last, .string s]) ∧ Con (fun i => i = q) w' 1 2 100 100 200 F 1000 10 fb fd q 121 r cs0 [.int .u64 0, .int .i64 0] ∧ w.heap.size ≤ q ∧ Kept (fun i => i = x) w w' := by
  have p1 : decide ((0 : Int) < (lv : Int)) = true := decide_eq_true (by omega)
  have hp9 := Blk.new w [.int .i64 (lv : Int), .slice A n c, .string hi, .bool la, .int .u64 (rt : Int)] 43
  have y0 := hp9.cell (i := 0) rfl
  have y1 := hp9.cell (i := 1) rfl
  have y2 := hp9.cell (i := 2) rfl
  have y3 := hp9.cell (i := 3) rfl
  have y4 := hp9.cell (i := 4) rfl
  clear hp9
  have HX := Lib.hid h
  have HR := Lib.hid hR
  have HA := Lib.hid ha
  clear h hR ha
  go_enter Try.func43, Try.ntmps43
  go_wp2_with fail
  have hal := (Kept.refl (fun _ => False) w).alloc (.cells #[.int .i64 (lv : Int), .slice A n c, .string hi, .bool la, .int .u64 (rt : Int)] 43)
  have HK := Lib.hid hal
  have HP := Lib.hid (Blk.new w [.int .i64 (lv : Int), .slice A n c, .string hi, .bool la, .int .u64 (rt : Int)] 43)
  replace HX := Lib.hid (hal.blk HX.out (fun h => h))
  replace HR := Lib.hid (HR.out.keptF hal (fun _ _ h => h))
  clear hal
  generalize hr0 : w.heap.size = r0 at HP ⊢
  have HR0 := Lib.hid hr0
  clear hr0
  generalize w.alloc (.cells #[.int .i64 (lv : Int), .slice A n c, .string hi, .bool la, .int .u64 (rt : Int)] 43) = W at *
  have HW := Lib.hid (Kept.refl (fun _ => False) W)
  clear y0 y1 y2 y3 y4
  refine (ends_any F fb fd x nid rp ph key low last _ HX.out lv A c hi la rt n false hee).mono ?_; rintro e wz ⟨rfl, hKz⟩
  replace HW := Lib.hid hKz
  clear hKz
  have hp9 := HW.out.blk HP.out (fun h => h)
  have y0 := hp9.cell (i := 0) rfl
  have y1 := hp9.cell (i := 1) rfl
  have y2 := hp9.cell (i := 2) rfl
  have y3 := hp9.cell (i := 3) rfl
  have y4 := hp9.cell (i := 4) rfl
  clear hp9
  go_wp2_with fail
  clear y0 y1 y2 y3 y4
  refine wp_region_held_drew (S := (fun w' => Kept (fun _ => False) W w')) (by kernel_rfl) ?_ (fun hHeld => ?_)
  · exact HW.out.drew
  replace HW := Lib.hid HW.out.drew
  generalize wz.drew = G at *
  refine wpAnyH_take (i := 0) (oi := ⟨some 25, _, _, _, _, _⟩) (v := ?_) rfl (by kernel_rfl) (by kernel_rfl) (by kernel_rfl) (fun _ _ _ h => h) (Or.inl ⟨by rfl, ?_⟩) hHeld ?_
  rotate_left
  · (intro wq hSw; have hx9 := hSw.blk HX.out (fun h => h); have x13 := hx9.cell (i := 13) rfl; have x14 := hx9.cell (i := 14) rfl; have hp9 := hSw.blk HP.out (fun h => h); have y0 := hp9.cell (i := 0) rfl; have y1 := hp9.cell (i := 1) rfl; have y2 := hp9.cell (i := 2) rfl; have y3 := hp9.cell (i := 3) rfl; have y4 := hp9.cell (i := 4) rfl; clear hx9 hp9; go_simp; try with_reducible rfl)
  try simp only [Act.put, List.setIfInBounds_toArray, List.set_cons_zero, List.set_cons_succ]
  refine wpAnyH_take (i := 1) (oi := ⟨some 26, _, _, _, _, _⟩) (v := ?_) rfl (by kernel_rfl) (by kernel_rfl) (by kernel_rfl) (fun _ _ _ h => h) (Or.inl ⟨by rfl, ?_⟩) hHeld ?_
  rotate_left
  · (intro wq hSw; go_simp; try with_reducible rfl)
  try simp only [Act.put, List.setIfInBounds_toArray, List.set_cons_zero, List.set_cons_succ]
  refine wpAnyH_take (i := 2) (oi := ⟨some 27, _, _, _, _, _⟩) (v := ?_) rfl (by kernel_rfl) (by kernel_rfl) (by kernel_rfl) (fun _ _ _ h => h) (Or.inl ⟨by rfl, ?_⟩) hHeld ?_
  rotate_left
  · (intro wq hSw; go_simp; try with_reducible rfl)
  try simp only [Act.put, List.setIfInBounds_toArray, List.set_cons_zero, List.set_cons_succ]
  refine wpAnyH_take (i := 3) (oi := ⟨some 28, _, _, _, _, _⟩) (v := ?_) rfl (by kernel_rfl) (by kernel_rfl) (by kernel_rfl) (fun _ _ _ h => h) (Or.inl ⟨by rfl, ?_⟩) hHeld ?_
  rotate_left
  · (intro wq hSw; go_simp; try with_reducible rfl)
  try simp only [Act.put, List.setIfInBounds_toArray, List.set_cons_zero, List.set_cons_succ]
  refine wpAnyH_take (i := 4) (oi := ⟨some 29, _, _, _, _, _⟩) (v := ?_) rfl (by kernel_rfl) (by kernel_rfl) (by kernel_rfl) (fun _ _ _ h => h) (Or.inl ⟨by rfl, ?_⟩) hHeld ?_
  rotate_left
  · (intro wq hSw; have hx9 := hSw.blk HX.out (fun h => h); have x13 := hx9.cell (i := 13) rfl; have x14 := hx9.cell (i := 14) rfl; have hp9 := hSw.blk HP.out (fun h => h); have y0 := hp9.cell (i := 0) rfl; have y1 := hp9.cell (i := 1) rfl; have y2 := hp9.cell (i := 2) rfl; have y3 := hp9.cell (i := 3) rfl; have y4 := hp9.cell (i := 4) rfl; clear hx9 hp9; go_simp; try with_reducible rfl)
  try simp only [Act.put, List.setIfInBounds_toArray, List.set_cons_zero, List.set_cons_succ]
  refine wpAnyH_take (i := 5) (oi := ⟨some 30, _, _, _, _, _⟩) (v := ?_) rfl (by kernel_rfl) (by kernel_rfl) (by kernel_rfl) (fun _ _ _ h => h) (Or.inl ⟨by rfl, ?_⟩) hHeld ?_
  rotate_left
  · (intro wq hSw; go_simp; try with_reducible rfl)
  try simp only [Act.put, List.setIfInBounds_toArray, List.set_cons_zero, List.set_cons_succ]
  refine wpAnyH_take (i := 6) (oi := ⟨some 31, _, _, _, _, _⟩) (v := ?_) rfl (by kernel_rfl) (by kernel_rfl) (by kernel_rfl) (fun _ _ _ h => h) (Or.inl ⟨by rfl, ?_⟩) hHeld ?_
  rotate_left
  · (intro wq hSw; go_simp; try with_reducible rfl)
  try simp only [Act.put, List.setIfInBounds_toArray, List.set_cons_zero, List.set_cons_succ]
  refine wpAnyH_take (i := 7) (oi := ⟨some 32, _, _, _, _, _⟩) (v := ?_) rfl (by kernel_rfl) (by kernel_rfl) (by kernel_rfl) (fun _ _ _ h => h) (Or.inl ⟨by rfl, ?_⟩) hHeld ?_
  rotate_left
  · (intro wq hSw; go_simp; try with_reducible rfl)
  try simp only [Act.put, List.setIfInBounds_toArray, List.set_cons_zero, List.set_cons_succ]
  refine wpAnyH_take (i := 8) (oi := ⟨some 33, _, _, _, _, _⟩) (v := ?_) rfl (by kernel_rfl) (by kernel_rfl) (by kernel_rfl) (fun _ _ _ h => h) (Or.inl ⟨by rfl, ?_⟩) hHeld ?_
  rotate_left
  · (intro wq hSw; have hx9 := hSw.blk HX.out (fun h => h); have x13 := hx9.cell (i := 13) rfl; have x14 := hx9.cell (i := 14) rfl; have hp9 := hSw.blk HP.out (fun h => h); have y0 := hp9.cell (i := 0) rfl; have y1 := hp9.cell (i := 1) rfl; have y2 := hp9.cell (i := 2) rfl; have y3 := hp9.cell (i := 3) rfl; have y4 := hp9.cell (i := 4) rfl; clear hx9 hp9; go_simp; try with_reducible rfl)
  try simp only [Act.put, List.setIfInBounds_toArray, List.set_cons_zero, List.set_cons_succ]
  refine wpAnyH_ready (rs := [9, 13]) (by kernel_rfl) (by simp) ?_
  refine AllReadyH.cons (o := ⟨some 34, _, _, _, _, _⟩) rfl (fun KK hK => ?_) (AllReadyH.cons (o := ⟨some 4, _, _, _, _, _⟩) rfl (fun KK hK => ?_) (AllReadyH.nil))
  · go_simp
    go_at_call 63
    refine (below_any (lv : Int) A c hi la rt xs key last _ n hn h40 (HR.out.keptF HW.out (fun _ _ h => h)) HA.out s r bb hnr).mono ?_; rintro e G ⟨rfl, hB⟩
    replace HW := Lib.hid (HW.out.trans (bkept hB) (fun _ _ h => h))
    try replace HSL := Lib.hid ((bkept hB).blk HSL.out (fun h => h))
    clear hB
    refine hK.out _ _ ?_ (fun hHeld2 => ?_)
    · exact HW.out
    clear hK KK hHeld
    have hHeld := hHeld2
    clear hHeld2
    try simp only [Act.put, List.setIfInBounds_toArray, List.set_cons_zero, List.set_cons_succ]
    refine wpAnyH_take (i := 10) (oi := ⟨some 24, _, _, _, _, _⟩) (v := ?_) rfl (by kernel_rfl) (by kernel_rfl) (by kernel_rfl) (fun _ _ _ h => h) (Or.inl ⟨by rfl, ?_⟩) hHeld ?_
    rotate_left
    · (intro wq hSw; go_simp; try with_reducible rfl)
    try simp only [Act.put, List.setIfInBounds_toArray, List.set_cons_zero, List.set_cons_succ]
    refine wpAnyH_take (i := 11) (oi := ⟨some 35, _, _, _, _, _⟩) (v := ?_) rfl (by kernel_rfl) (by kernel_rfl) (by kernel_rfl) (fun _ _ _ h => h) (Or.inl ⟨by rfl, ?_⟩) hHeld ?_
    rotate_left
    · (intro wq hSw; go_simp; try with_reducible rfl)
    try simp only [Act.put, List.setIfInBounds_toArray, List.set_cons_zero, List.set_cons_succ]
    refine wpAnyH_take (i := 12) (oi := ⟨some 36, _, _, _, _, _⟩) (v := ?_) rfl (by kernel_rfl) (by kernel_rfl) (by kernel_rfl) (fun _ _ _ h => h) (Or.inl ⟨by rfl, ?_⟩) hHeld ?_
    rotate_left
    · (intro wq hSw; go_simp; try with_reducible rfl)
    try simp only [Act.put, List.setIfInBounds_toArray, List.set_cons_zero, List.set_cons_succ]
    refine wpAnyH_ready (rs := [13]) (by kernel_rfl) (by simp) ?_
    refine AllReadyH.cons (o := ⟨some 4, _, _, _, _, _⟩) rfl (fun KK hK => ?_) (AllReadyH.nil)
    go_simp
    have hr1 : W.heap.size ≤ G.heap.size := HW.out.size
    replace HW := Lib.hid (HW.out.alloc (.cells #[.string ⟨#[]⟩, .int .u64 0] 65))
    have HSL := Lib.hid (Blk.new G [.string ⟨#[]⟩, .int .u64 0] 65)
    generalize G.heap.size = r1 at *
    have HR1 := Lib.hid hr1
    clear hr1
    generalize G.alloc (.cells #[.string ⟨#[]⟩, .int .u64 0] 65) = G at *
    refine hK.out _ _ ?_ (fun hHeld2 => ?_)
    · exact HW.out
    clear hK KK hHeld
    have hHeld := hHeld2
    clear hHeld2
    try simp only [Act.put, List.setIfInBounds_toArray, List.set_cons_zero, List.set_cons_succ]
    refine wpAnyH_ready (rs := [14]) (by kernel_rfl) (by simp) ?_
    refine AllReadyH.cons (o := ⟨none, _, _, _, _, _⟩) rfl (fun KK hK => ?_) (AllReadyH.nil)
    have hs9 := HSL.out
    have s0 := hs9.cell (i := 0) rfl
    have s1 := hs9.cell (i := 1) rfl
    have zs0 := hs9.frozen 0
    have zs1 := hs9.frozen 1
    clear hs9
    go_simp
    replace HSL := Lib.hid ((HSL.out.set 0 (.string s)).set 1 (.int .u64 (r : Int)))
    replace HW := Lib.hid ((HW.out.setNew HR1.out 0 (.string s)).setNew HR1.out 1 (.int .u64 (r : Int)))
    clear s0 s1 zs0 zs1
    generalize (G.setCell ⟨r1, 0, none⟩ (.string s)).setCell ⟨r1, 1, none⟩ (.int .u64 (r : Int)) = G at *
    refine hK.out _ _ ?_ (fun hHeld2 => ?_)
    · exact HW.out
    clear hK KK hHeld
    have hHeld := hHeld2
    clear hHeld2
    try simp only [Act.put, List.setIfInBounds_toArray, List.set_cons_zero, List.set_cons_succ]
    refine wpAnyH_take (i := 15) (oi := ⟨some 5, _, _, _, _, _⟩) (v := ?_) rfl (by kernel_rfl) (by kernel_rfl) (by kernel_rfl) (fun _ _ _ h => h) (Or.inl ⟨by rfl, ?_⟩) hHeld ?_
    rotate_left
    · (intro wq hSw; go_simp; try with_reducible rfl)
    try simp only [Act.put, List.setIfInBounds_toArray, List.set_cons_zero, List.set_cons_succ]
    refine wpAnyH_done (by kernel_rfl) ?_ _
    clear hHeld
    have hs9 := HSL.out
    have s0 := hs9.cell (i := 0) rfl
    have s1 := hs9.cell (i := 1) rfl
    clear hs9
    go_wp2_with fail
    replace HX := Lib.hid (HW.out.blk HX.out (fun h => h))
    replace HP := Lib.hid (HW.out.blk HP.out (fun h => h))
    replace HK := Lib.hid (HK.out.trans HW.out (fun _ _ h => h))
    replace HR := Lib.hid (HR.out.keptF HW.out (fun _ _ h => h))
    clear HW
    have HW := Lib.hid (Kept.refl (fun _ => False) G)
    refine (bgoTo_some F h4 h6 fb fd hd x nid rp ph key low last _ (HW.out.blk HX.out (fun h => h)) r s hn0).mono ?_; rintro e w3 ⟨q, rfl, hB3, hC3, hq3, hK3⟩
    have HB3 := Lib.hid hB3
    have HC3 := Lib.hid hC3
    have HQ := Lib.hid (Nat.le_trans (Nat.le_trans HK.out.size HW.out.size) hq3)
    have HK3 := Lib.hid (((HK.out.trans HW.out (fun _ _ h => h)).mono (T := fun i => i = x) (fun _ h => h.elim)).trans hK3 (fun _ _ h => h))
    clear hB3 hC3 hq3 hK3
    go_wp2
    go_end0
    exact ⟨q, rfl, HB3.out, HC3.out, HQ.out, HK3.out⟩
  · go_simp
    have hr1 : W.heap.size ≤ G.heap.size := HW.out.size
    replace HW := Lib.hid (HW.out.alloc (.cells #[.string ⟨#[]⟩, .int .u64 0] 65))
    have HSL := Lib.hid (Blk.new G [.string ⟨#[]⟩, .int .u64 0] 65)
    generalize G.heap.size = r1 at *
    have HR1 := Lib.hid hr1
    clear hr1
    generalize G.alloc (.cells #[.string ⟨#[]⟩, .int .u64 0] 65) = G at *
    refine hK.out _ _ ?_ (fun hHeld2 => ?_)
    · exact HW.out
    clear hK KK hHeld
    have hHeld := hHeld2
    clear hHeld2
    try simp only [Act.put, List.setIfInBounds_toArray, List.set_cons_zero, List.set_cons_succ]
    refine wpAnyH_ready (rs := [9]) (by kernel_rfl) (by simp) ?_
    refine AllReadyH.cons (o := ⟨some 34, _, _, _, _, _⟩) rfl (fun KK hK => ?_) (AllReadyH.nil)
    go_simp
    go_at_call 63
    refine (below_any (lv : Int) A c hi la rt xs key last _ n hn h40 (HR.out.keptF HW.out (fun _ _ h => h)) HA.out s r bb hnr).mono ?_; rintro e G ⟨rfl, hB⟩
    replace HW := Lib.hid (HW.out.trans (bkept hB) (fun _ _ h => h))
    try replace HSL := Lib.hid ((bkept hB).blk HSL.out (fun h => h))
    clear hB
    refine hK.out _ _ ?_ (fun hHeld2 => ?_)
    · exact HW.out
    clear hK KK hHeld
    have hHeld := hHeld2
    clear hHeld2
    try simp only [Act.put, List.setIfInBounds_toArray, List.set_cons_zero, List.set_cons_succ]
    refine wpAnyH_take (i := 10) (oi := ⟨some 24, _, _, _, _, _⟩) (v := ?_) rfl (by kernel_rfl) (by kernel_rfl) (by kernel_rfl) (fun _ _ _ h => h) (Or.inl ⟨by rfl, ?_⟩) hHeld ?_
    rotate_left
    · (intro wq hSw; go_simp; try with_reducible rfl)
    try simp only [Act.put, List.setIfInBounds_toArray, List.set_cons_zero, List.set_cons_succ]
    refine wpAnyH_take (i := 11) (oi := ⟨some 35, _, _, _, _, _⟩) (v := ?_) rfl (by kernel_rfl) (by kernel_rfl) (by kernel_rfl) (fun _ _ _ h => h) (Or.inl ⟨by rfl, ?_⟩) hHeld ?_
    rotate_left
    · (intro wq hSw; go_simp; try with_reducible rfl)
    try simp only [Act.put, List.setIfInBounds_toArray, List.set_cons_zero, List.set_cons_succ]
    refine wpAnyH_take (i := 12) (oi := ⟨some 36, _, _, _, _, _⟩) (v := ?_) rfl (by kernel_rfl) (by kernel_rfl) (by kernel_rfl) (fun _ _ _ h => h) (Or.inl ⟨by rfl, ?_⟩) hHeld ?_
    rotate_left
    · (intro wq hSw; go_simp; try with_reducible rfl)
    try simp only [Act.put, List.setIfInBounds_toArray, List.set_cons_zero, List.set_cons_succ]
    refine wpAnyH_ready (rs := [14]) (by kernel_rfl) (by simp) ?_
    refine AllReadyH.cons (o := ⟨none, _, _, _, _, _⟩) rfl (fun KK hK => ?_) (AllReadyH.nil)
    have hs9 := HSL.out
    have s0 := hs9.cell (i := 0) rfl
    have s1 := hs9.cell (i := 1) rfl
    have zs0 := hs9.frozen 0
    have zs1 := hs9.frozen 1
    clear hs9
    go_simp
    replace HSL := Lib.hid ((HSL.out.set 0 (.string s)).set 1 (.int .u64 (r : Int)))
    replace HW := Lib.hid ((HW.out.setNew HR1.out 0 (.string s)).setNew HR1.out 1 (.int .u64 (r : Int)))
    clear s0 s1 zs0 zs1
    generalize (G.setCell ⟨r1, 0, none⟩ (.string s)).setCell ⟨r1, 1, none⟩ (.int .u64 (r : Int)) = G at *
    refine hK.out _ _ ?_ (fun hHeld2 => ?_)
    · exact HW.out
    clear hK KK hHeld
    have hHeld := hHeld2
    clear hHeld2
    try simp only [Act.put, List.setIfInBounds_toArray, List.set_cons_zero, List.set_cons_succ]
    refine wpAnyH_take (i := 15) (oi := ⟨some 5, _, _, _, _, _⟩) (v := ?_) rfl (by kernel_rfl) (by kernel_rfl) (by kernel_rfl) (fun _ _ _ h => h) (Or.inl ⟨by rfl, ?_⟩) hHeld ?_
    rotate_left
    · (intro wq hSw; go_simp; try with_reducible rfl)
    try simp only [Act.put, List.setIfInBounds_toArray, List.set_cons_zero, List.set_cons_succ]
    refine wpAnyH_done (by kernel_rfl) ?_ _
    clear hHeld
    have hs9 := HSL.out
    have s0 := hs9.cell (i := 0) rfl
    have s1 := hs9.cell (i := 1) rfl
    clear hs9
    go_wp2_with fail
    replace HX := Lib.hid (HW.out.blk HX.out (fun h => h))
    replace HP := Lib.hid (HW.out.blk HP.out (fun h => h))
    replace HK := Lib.hid (HK.out.trans HW.out (fun _ _ h => h))
    replace HR := Lib.hid (HR.out.keptF HW.out (fun _ _ h => h))
    clear HW
    have HW := Lib.hid (Kept.refl (fun _ => False) G)
    refine (bgoTo_some F h4 h6 fb fd hd x nid rp ph key low last _ (HW.out.blk HX.out (fun h => h)) r s hn0).mono ?_; rintro e w3 ⟨q, rfl, hB3, hC3, hq3, hK3⟩
    have HB3 := Lib.hid hB3
    have HC3 := Lib.hid hC3
    have HQ := Lib.hid (Nat.le_trans (Nat.le_trans HK.out.size HW.out.size) hq3)
    have HK3 := Lib.hid (((HK.out.trans HW.out (fun _ _ h => h)).mono (T := fun i => i = x) (fun _ h => h.elim)).trans hK3 (fun _ _ h => h))
    clear hB3 hC3 hq3 hK3
    go_wp2
    go_end0
    exact ⟨q, rfl, HB3.out, HC3.out, HQ.out, HK3.out⟩

end Go.Proofs.Ytboieccjikcdiaa
