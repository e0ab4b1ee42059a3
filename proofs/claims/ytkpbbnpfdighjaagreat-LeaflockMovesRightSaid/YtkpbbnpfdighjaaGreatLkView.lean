/-
  What the cells of a memory as plain data and the kit's group answer. Condition: the kit's small configurations.
-/
import Derived.Test.YtkpbbnpfdighjaaGreatLkPutK
namespace Go.Proofs.YtkpbbnpfdighjaaGreat
section
open Go.RowKit Go.Deep Plain
set_option linter.unusedVariables false

set_option maxHeartbeats 1000000 in
theorem vat_in (F : Nat) (h4 : 4 ≤ F) (h6 : F ≤ 6) (g n : Nat) (l : List Cel) (hl : l.length = n) (i : Nat) (N M : Int) (K : ByteArray) (w : World) (hv : Blk w g 46 (flat3 l)) (hi : i < n) (hc : l[i]? = some (N, K, M)) :
    Calls Tryz.prog 82 #[.agg #[.int .i64 1, .int .i64 2, .int .i64 100, .int .i64 100, .int .i64 200, .int .i64 (F : Int), .int .u64 1000, .slice (some ⟨g, 0, none⟩) n n], .int .i64 i] w fun e w' => e = .returned (.agg #[.int .u64 N, .string K, .int .u64 M]) ∧ Kept (fun _ => False) w w' := by
  obtain ⟨f1, f2, f3⟩ := flat3_at l i _ hc
  have d1 := hv.cell f1
  have d2 := hv.cell f2
  have d3 := hv.cell f3
  have hg := hv.lt
  have p1 : ¬ ((i : Int) < 0) := by omega
  have p2 : (i : Int) < (n : Int) := by omega
  have p3 : decide ((i : Int) < 0) = false := decide_eq_false p1
  have p4 : decide ((i : Int) < (n : Int)) = true := decide_eq_true p2
  have HL := Lib.hid hl
  clear f1 f2 f3 hc hl
  go_enter Tryz.func82, Tryz.ntmps82
  go_wp2
  refine bodyPost_ret (v := .agg #[.int .u64 N, .string K, .int .u64 M]) (by simp [results, Tryz.results82, go_sem]) rfl ⟨rfl, ?_⟩
  have hK := ((Kept.refl (fun _ => False) w).alloc (.cells #[.int .i64 1, .int .i64 2, .int .i64 100, .int .i64 100, .int .i64 200, .int .i64 (F : Int), .int .u64 1000, .slice (some ⟨g, 0, none⟩) n n] 78)).alloc (.cells #[.int .u64 0, .string ⟨#[]⟩, .int .u64 0] 46)
  first
    | exact hK
    | exact ((hK.setNew (b := w.heap.size + 1) (by omega) 0 _).setNew (b := w.heap.size + 1) (by omega) 1 _).setNew (b := w.heap.size + 1) (by omega) 2 _
    | exact ((Kept.refl _ _).alloc _).alloc _

set_option maxHeartbeats 1000000 in
theorem vat_out (F : Nat) (h4 : 4 ≤ F) (h6 : F ≤ 6) (g n : Nat) (l : List Cel) (hl : l.length = n) (i : Int) (w : World) (hv : Blk w g 46 (flat3 l)) (hi : i < 0 ∨ (n : Int) ≤ i) :
    Calls Tryz.prog 82 #[.agg #[.int .i64 1, .int .i64 2, .int .i64 100, .int .i64 100, .int .i64 200, .int .i64 (F : Int), .int .u64 1000, .slice (some ⟨g, 0, none⟩) n n], .int .i64 i] w fun e w' => e = .returned (.agg #[.int .u64 0, .string ⟨#[]⟩, .int .u64 0]) ∧ Kept (fun _ => False) w w' := by
  have hg := hv.lt
  have HL := Lib.hid hl
  clear hl
  rcases (by omega : i < 0 ∨ (¬ i < 0 ∧ (n : Int) ≤ i)) with hi | hi
  · have p3 : decide (i < 0) = true := decide_eq_true (by omega)
    go_enter Tryz.func82, Tryz.ntmps82
    go_wp2
    refine bodyPost_ret (v := .agg #[.int .u64 0, .string ⟨#[]⟩, .int .u64 0]) (by simp [results, Tryz.results82, go_sem]) rfl ⟨rfl, ?_⟩
    exact ((Kept.refl _ _).alloc _).alloc _
  · have p3 : decide (i < 0) = false := decide_eq_false (by omega)
    have p2 : ¬ i < (n : Int) := by omega
    have p1 : ¬ i < 0 := by omega
    have p4 : decide (i < (n : Int)) = false := decide_eq_false (by omega)
    go_enter Tryz.func82, Tryz.ntmps82
    go_wp2
    refine bodyPost_ret (v := .agg #[.int .u64 0, .string ⟨#[]⟩, .int .u64 0]) (by simp [results, Tryz.results82, go_sem]) rfl ⟨rfl, ?_⟩
    exact ((Kept.refl _ _).alloc _).alloc _

theorem vat_any (F : Nat) (h4 : 4 ≤ F) (h6 : F ≤ 6) (g n : Nat) (l : List Cel) (hl : l.length = n) (i : Int) (N M : Int) (K : ByteArray) (w : World) (hv : Blk w g 46 (flat3 l)) (hc : cellAt l i = (N, K, M)) :
    Calls Tryz.prog 82 #[.agg #[.int .i64 1, .int .i64 2, .int .i64 100, .int .i64 100, .int .i64 200, .int .i64 (F : Int), .int .u64 1000, .slice (some ⟨g, 0, none⟩) n n], .int .i64 i] w fun e w' => e = .returned (.agg #[.int .u64 N, .string K, .int .u64 M]) ∧ Kept (fun _ => False) w w' := by
  by_cases hi : 0 ≤ i ∧ i < n
  · obtain ⟨j, rfl⟩ : ∃ j : Nat, i = j := ⟨i.toNat, by omega⟩
    rw [cellAt_in l j (by omega)] at hc
    exact vat_in F h4 h6 g n l hl j N M K w hv (by omega) (by rw [List.getElem?_eq_getElem (by omega), hc])
  · rw [cellAt_out l i (by omega)] at hc
    obtain ⟨rfl, rfl, rfl⟩ : (0 : Int) = N ∧ (⟨#[]⟩ : ByteArray) = K ∧ (0 : Int) = M := by unfold cel0 at hc; simpa using hc
    exact vat_out F h4 h6 g n l hl i w hv (by omega)
set_option maxHeartbeats 2000000 in
theorem vpart_any (F : Nat) (h4 : 4 ≤ F) (h6 : F ≤ 6) (g n : Nat) (l : List Cel) (hl : l.length = n) (nid part : Nat) (hp : part < F + 4) (a : Int) (ha : nodeAt 100 (F : Int) 10 (nid : Int) (part : Int) = a) (N M : Int) (K : ByteArray) (w : World) (hv : Blk w g 46 (flat3 l)) (hc : cellAt l a = (N, K, M)) :
    Calls Tryz.prog 125 #[.agg #[.int .i64 1, .int .i64 2, .int .i64 100, .int .i64 100, .int .i64 200, .int .i64 (F : Int), .int .u64 1000, .slice (some ⟨g, 0, none⟩) n n], .int .u64 (nid : Int), .int .i64 (part : Int)] w fun e w' => e = .returned (.agg #[.int .u64 N, .string K, .int .u64 M]) ∧ Kept (fun _ => False) w w' := by
  have HV0 := Lib.hid hv
  have HC := Lib.hid hc
  have hrl : nodeAt 100 (F : Int) 10 (nid : Int) (part : Int) = a := ha
  clear hv hc
  go_enter Tryz.func125, Tryz.ntmps125
  go_wp2_with fail
  have hal := ((Kept.refl (fun _ => False) w).alloc (.cells #[.int .i64 1, .int .i64 2, .int .i64 100, .int .i64 100, .int .i64 200, .int .i64 (F : Int), .int .u64 1000, .slice (some ⟨g, 0, none⟩) n n] 78)).alloc (.cells #[.int .u64 0, .string ⟨#[]⟩, .int .u64 0] 46)
  have HB := Lib.hid ((Blk.new w [.int .i64 1, .int .i64 2, .int .i64 100, .int .i64 100, .int .i64 200, .int .i64 (F : Int), .int .u64 1000, .slice (some ⟨g, 0, none⟩) n n] 78).alloc (.cells #[.int .u64 0, .string ⟨#[]⟩, .int .u64 0] 46))
  have hNN := Blk.new (w.alloc (.cells #[.int .i64 1, .int .i64 2, .int .i64 100, .int .i64 100, .int .i64 200, .int .i64 (F : Int), .int .u64 1000, .slice (some ⟨g, 0, none⟩) n n] 78)) [.int .u64 0, .string ⟨#[]⟩, .int .u64 0] 46
  have hsz1 : (w.alloc (.cells #[.int .i64 1, .int .i64 2, .int .i64 100, .int .i64 100, .int .i64 200, .int .i64 (F : Int), .int .u64 1000, .slice (some ⟨g, 0, none⟩) n n] 78)).heap.size = w.heap.size + 1 := nblk_alloc _ _
  rw [hsz1] at hNN
  have HN := Lib.hid hNN
  have HV := Lib.hid (hal.blk HV0.out (fun h => h))
  have HK := Lib.hid hal
  clear hal hNN hsz1
  generalize (w.alloc (.cells #[.int .i64 1, .int .i64 2, .int .i64 100, .int .i64 100, .int .i64 200, .int .i64 (F : Int), .int .u64 1000, .slice (some ⟨g, 0, none⟩) n n] 78)).alloc (.cells #[.int .u64 0, .string ⟨#[]⟩, .int .u64 0] 46) = W at *
  have HW := Lib.hid (Kept.refl (fun _ => False) W)
  generalize hr1 : w.heap.size + 1 = r1 at *
  generalize hr0 : w.heap.size = r0 at *
  have HR := Lib.hid (show r1 = r0 + 1 by omega)
  have HR0 := Lib.hid hr0.symm
  clear hr0 hr1
  refine qtail 7 (fun w' => Kept (fun _ => False) W w') (by kernel_rfl) (by kernel_rfl) HW.out.drew ?_
  simp only [List.take_succ_cons, List.take_zero, List.drop_succ_cons, List.drop_zero]
  refine qstep (o := ⟨some 7, _, _, _, _, _⟩) (v := ?_) (by rfl) (fun wq hSw => ?_) ?_
  rotate_left
  · (have hb9 := hSw.blk HB.out (fun h => h); have x0 := hb9.cell (i := 0) rfl; have x1 := hb9.cell (i := 1) rfl; have x2 := hb9.cell (i := 2) rfl; have x3 := hb9.cell (i := 3) rfl; have x4 := hb9.cell (i := 4) rfl; have x5 := hb9.cell (i := 5) rfl; have x6 := hb9.cell (i := 6) rfl; have x7 := hb9.cell (i := 7) rfl; clear hb9; go_simp; try with_reducible rfl)
  try simp only [Act.put, List.setIfInBounds_toArray, List.set_cons_zero, List.set_cons_succ]
  refine qstep (o := ⟨some 8, _, _, _, _, _⟩) (v := ?_) (by rfl) (fun wq hSw => ?_) ?_
  rotate_left
  · (go_simp; try with_reducible rfl)
  try simp only [Act.put, List.setIfInBounds_toArray, List.set_cons_zero, List.set_cons_succ]
  refine qstep (o := ⟨some 9, _, _, _, _, _⟩) (v := ?_) (by rfl) (fun wq hSw => ?_) ?_
  rotate_left
  · (have hb9 := hSw.blk HB.out (fun h => h); have x0 := hb9.cell (i := 0) rfl; have x1 := hb9.cell (i := 1) rfl; have x2 := hb9.cell (i := 2) rfl; have x3 := hb9.cell (i := 3) rfl; have x4 := hb9.cell (i := 4) rfl; have x5 := hb9.cell (i := 5) rfl; have x6 := hb9.cell (i := 6) rfl; have x7 := hb9.cell (i := 7) rfl; clear hb9; go_simp; try with_reducible rfl)
  try simp only [Act.put, List.setIfInBounds_toArray, List.set_cons_zero, List.set_cons_succ]
  refine qstep (o := ⟨some 10, _, _, _, _, _⟩) (v := ?_) (by rfl) (fun wq hSw => ?_) ?_
  rotate_left
  · (go_simp; try with_reducible rfl)
  try simp only [Act.put, List.setIfInBounds_toArray, List.set_cons_zero, List.set_cons_succ]
  refine qstep (o := ⟨some 11, _, _, _, _, _⟩) (v := ?_) (by rfl) (fun wq hSw => ?_) ?_
  rotate_left
  · (go_simp; try with_reducible rfl)
  try simp only [Act.put, List.setIfInBounds_toArray, List.set_cons_zero, List.set_cons_succ]
  refine qcall (o := ⟨some 12, _, _, _, _, _⟩) (v := .int .i64 a) (by rfl) (fun wq hSw => ?_) (fun wq hSw => Calls.mono (ref_to F nid part h4 h6 hp a hrl _) ?_) ?_
  · (go_simp; try with_reducible rfl)
  · rintro e w9 ⟨rfl, hk⟩; exact ⟨rfl, hSw.trans hk (fun _ _ h => h)⟩
  try simp only [Act.put, List.setIfInBounds_toArray, List.set_cons_zero, List.set_cons_succ]
  refine qcall (o := ⟨some 13, _, _, _, _, _⟩) (v := .agg #[.int .u64 N, .string K, .int .u64 M]) (by rfl) (fun wq hSw => ?_) (fun wq hSw => Calls.mono (vat_any F h4 h6 g n l hl a N M K _ (hSw.blk HV.out (fun h => h)) HC.out) ?_) ?_
  · (go_simp; try with_reducible rfl)
  · rintro e w9 ⟨rfl, hk⟩; exact ⟨rfl, hSw.trans hk (fun _ _ h => h)⟩
  try simp only [Act.put, List.setIfInBounds_toArray, List.set_cons_zero, List.set_cons_succ]
  refine wpQuiet_nil ?_
  intro wz hHeld
  have hn9 := hHeld.blk HN.out (fun h => h)
  have x0 := hn9.cell (i := 0) rfl
  have x1 := hn9.cell (i := 1) rfl
  have x2 := hn9.cell (i := 2) rfl
  have z0 := hn9.frozen 0
  have z1 := hn9.frozen 1
  have z2 := hn9.frozen 2
  have HK5 := Lib.hid ((((HK.out.trans hHeld (fun _ _ h => h)).setNew (b := r1) (by rw [HR.out, HR0.out]; omega) 0 (.int .u64 N)).setNew (b := r1) (by rw [HR.out, HR0.out]; omega) 1 (.string K)).setNew (b := r1) (by rw [HR.out, HR0.out]; omega) 2 (.int .u64 M))
  have HN2 := Lib.hid (((hn9.set 0 (.int .u64 N)).set 1 (.string K)).set 2 (.int .u64 M))
  clear hn9 hHeld
  go_wp2
  have q0 := HN2.out.cell (i := 0) rfl
  have q1 := HN2.out.cell (i := 1) rfl
  have q2 := HN2.out.cell (i := 2) rfl
  refine bodyPost_ret (v := .agg #[.int .u64 N, .string K, .int .u64 M]) ?_ rfl ⟨rfl, HK5.out⟩
  simp [results, Tryz.results125, go_sem, q0, q1, q2]

set_option maxHeartbeats 1000000 in
theorem vnode_in (F : Nat) (h4 : 4 ≤ F) (h6 : F ≤ 6) (g n : Nat) (l : List Cel) (hl : l.length = n) (nid tot : Nat) (M4 : Int) (K4 : ByteArray) (h1 : 1 ≤ nid) (h2 : nid ≤ 100) (h3 : nid ≤ tot) (w : World) (hv : Blk w g 46 (flat3 l)) (hc : cellAt l 4 = ((tot : Int), K4, M4)) :
    Calls Tryz.prog 81 #[.agg #[.int .i64 1, .int .i64 2, .int .i64 100, .int .i64 100, .int .i64 200, .int .i64 (F : Int), .int .u64 1000, .slice (some ⟨g, 0, none⟩) n n], .int .u64 (nid : Int)] w fun e w' => e = .returned (.bool true) ∧ Kept (fun _ => False) w w' := by
  have HV0 := Lib.hid hv
  have HC := Lib.hid hc
  have hfd := field0 (tot : Int) M4 K4
  have p1 : (1 : Int) ≤ (nid : Int) := by omega
  have p2 : (nid : Int) ≤ 100 := by omega
  have p3 : (nid : Int) ≤ (tot : Int) := by omega
  have p4 : ¬ (nid : Int) < 1 := by omega
  have p5 : ¬ (100 : Int) < (nid : Int) := by omega
  have p6 : ¬ (tot : Int) < (nid : Int) := by omega
  clear hv hc
  have x0 := (Blk.new w [.int .i64 1, .int .i64 2, .int .i64 100, .int .i64 100, .int .i64 200, .int .i64 (F : Int), .int .u64 1000, .slice (some ⟨g, 0, none⟩) n n] 78).cell (i := 0) rfl
  have x1 := (Blk.new w [.int .i64 1, .int .i64 2, .int .i64 100, .int .i64 100, .int .i64 200, .int .i64 (F : Int), .int .u64 1000, .slice (some ⟨g, 0, none⟩) n n] 78).cell (i := 1) rfl
  have x2 := (Blk.new w [.int .i64 1, .int .i64 2, .int .i64 100, .int .i64 100, .int .i64 200, .int .i64 (F : Int), .int .u64 1000, .slice (some ⟨g, 0, none⟩) n n] 78).cell (i := 2) rfl
  have x3 := (Blk.new w [.int .i64 1, .int .i64 2, .int .i64 100, .int .i64 100, .int .i64 200, .int .i64 (F : Int), .int .u64 1000, .slice (some ⟨g, 0, none⟩) n n] 78).cell (i := 3) rfl
  have x4 := (Blk.new w [.int .i64 1, .int .i64 2, .int .i64 100, .int .i64 100, .int .i64 200, .int .i64 (F : Int), .int .u64 1000, .slice (some ⟨g, 0, none⟩) n n] 78).cell (i := 4) rfl
  have x5 := (Blk.new w [.int .i64 1, .int .i64 2, .int .i64 100, .int .i64 100, .int .i64 200, .int .i64 (F : Int), .int .u64 1000, .slice (some ⟨g, 0, none⟩) n n] 78).cell (i := 5) rfl
  have x6 := (Blk.new w [.int .i64 1, .int .i64 2, .int .i64 100, .int .i64 100, .int .i64 200, .int .i64 (F : Int), .int .u64 1000, .slice (some ⟨g, 0, none⟩) n n] 78).cell (i := 6) rfl
  have x7 := (Blk.new w [.int .i64 1, .int .i64 2, .int .i64 100, .int .i64 100, .int .i64 200, .int .i64 (F : Int), .int .u64 1000, .slice (some ⟨g, 0, none⟩) n n] 78).cell (i := 7) rfl
  go_enter Tryz.func81, Tryz.ntmps81
  go_wp2_with fail
  refine (vat_any F h4 h6 g n l hl 4 (tot : Int) M4 K4 _ (HV0.out.alloc _) HC.out).mono ?_; rintro e w1 ⟨rfl, hK1⟩
  have HK1 := Lib.hid (((Kept.refl (fun _ => False) w).alloc (.cells #[.int .i64 1, .int .i64 2, .int .i64 100, .int .i64 100, .int .i64 200, .int .i64 (F : Int), .int .u64 1000, .slice (some ⟨g, 0, none⟩) n n] 78)).trans hK1 (fun _ _ h => h))
  clear hK1
  go_wp2
  go_ret
  exact ⟨rfl, HK1.out⟩

set_option maxHeartbeats 1000000 in
theorem vnode_zero (F : Nat) (h4 : 4 ≤ F) (h6 : F ≤ 6) (g n : Nat) (l : List Cel) (hl : l.length = n) (nid tot : Nat) (M4 : Int) (K4 : ByteArray) (h1 : nid = 0) (w : World) (hv : Blk w g 46 (flat3 l)) (hc : cellAt l 4 = ((tot : Int), K4, M4)) :
    Calls Tryz.prog 81 #[.agg #[.int .i64 1, .int .i64 2, .int .i64 100, .int .i64 100, .int .i64 200, .int .i64 (F : Int), .int .u64 1000, .slice (some ⟨g, 0, none⟩) n n], .int .u64 (nid : Int)] w fun e w' => e = .returned (.bool false) ∧ Kept (fun _ => False) w w' := by
  have HV0 := Lib.hid hv
  have HC := Lib.hid hc
  have hfd := field0 (tot : Int) M4 K4
  have p1 : ¬ (1 : Int) ≤ (nid : Int) := by omega
  have p4 : (nid : Int) < 1 := by omega
  clear h1
  clear hv hc
  have x0 := (Blk.new w [.int .i64 1, .int .i64 2, .int .i64 100, .int .i64 100, .int .i64 200, .int .i64 (F : Int), .int .u64 1000, .slice (some ⟨g, 0, none⟩) n n] 78).cell (i := 0) rfl
  have x1 := (Blk.new w [.int .i64 1, .int .i64 2, .int .i64 100, .int .i64 100, .int .i64 200, .int .i64 (F : Int), .int .u64 1000, .slice (some ⟨g, 0, none⟩) n n] 78).cell (i := 1) rfl
  have x2 := (Blk.new w [.int .i64 1, .int .i64 2, .int .i64 100, .int .i64 100, .int .i64 200, .int .i64 (F : Int), .int .u64 1000, .slice (some ⟨g, 0, none⟩) n n] 78).cell (i := 2) rfl
  have x3 := (Blk.new w [.int .i64 1, .int .i64 2, .int .i64 100, .int .i64 100, .int .i64 200, .int .i64 (F : Int), .int .u64 1000, .slice (some ⟨g, 0, none⟩) n n] 78).cell (i := 3) rfl
  have x4 := (Blk.new w [.int .i64 1, .int .i64 2, .int .i64 100, .int .i64 100, .int .i64 200, .int .i64 (F : Int), .int .u64 1000, .slice (some ⟨g, 0, none⟩) n n] 78).cell (i := 4) rfl
  have x5 := (Blk.new w [.int .i64 1, .int .i64 2, .int .i64 100, .int .i64 100, .int .i64 200, .int .i64 (F : Int), .int .u64 1000, .slice (some ⟨g, 0, none⟩) n n] 78).cell (i := 5) rfl
  have x6 := (Blk.new w [.int .i64 1, .int .i64 2, .int .i64 100, .int .i64 100, .int .i64 200, .int .i64 (F : Int), .int .u64 1000, .slice (some ⟨g, 0, none⟩) n n] 78).cell (i := 6) rfl
  have x7 := (Blk.new w [.int .i64 1, .int .i64 2, .int .i64 100, .int .i64 100, .int .i64 200, .int .i64 (F : Int), .int .u64 1000, .slice (some ⟨g, 0, none⟩) n n] 78).cell (i := 7) rfl
  go_enter Tryz.func81, Tryz.ntmps81
  go_wp2_with fail
  go_wp2
  go_ret
  exact ⟨rfl, (Kept.refl _ _).alloc _⟩
end

section
open Go.RowKit Go.Deep Plain
set_option linter.unusedVariables false

theorem infoInt : (Tryz.prog.info? 3).map (fun i => (i.zero, i.size, i.bytes)) = some (some (.int .i64 0), 1, 8) := by kernel_rfl
/-- The cells of a row of numbers. -/
def ints (ps : List Nat) : List Value := ps.map fun (p : Nat) => Value.int .i64 (p : Int)
theorem ints_length (ps : List Nat) : (ints ps).length = ps.length := by unfold ints; simp
theorem ints_at {ps : List Nat} {i p : Nat} (h : ps[i]? = some p) : (ints ps)[i]? = some (.int .i64 (p : Int)) := by unfold ints; rw [List.getElem?_map, h]; rfl
/-- What group builds: so many slots in nodes, m left. -/
structure Grp (F least n m : Nat) (ps : List Nat) : Prop where
  sum : ps.sum + m = n
  le : ∀ i p : Nat, ps[i]? = some p → 1 ≤ p ∧ p ≤ F
  ge : ∀ i p : Nat, ps[i]? = some p → least ≤ p ∨ (m = 0 ∧ i + 1 = ps.length)
theorem Grp.step {F least n m k : Nat} {ps : List Nat} (h : Grp F least n m ps) (hm : 0 < m) (hk : least ≤ k) (hk1 : 1 ≤ k) (hkF : k ≤ F) : Grp F least n (m - min k m) (ps ++ [min k m]) := by
  refine ⟨?_, fun i p hp => ?_, fun i p hp => ?_⟩
  · have := h.sum; rw [List.sum_append]; simp; omega
  · rcases Nat.lt_or_ge i ps.length with h1 | h1
    · rw [List.getElem?_append_left h1] at hp; exact h.le i p hp
    · rw [List.getElem?_append_right h1] at hp
      have h2 := (List.getElem?_eq_some_iff.1 hp).1
      simp at h2
      rw [show i - ps.length = 0 by omega] at hp
      have hp' : min k m = p := by simpa using hp
      omega
  · rcases Nat.lt_or_ge i ps.length with h1 | h1
    · rw [List.getElem?_append_left h1] at hp
      rcases h.ge i p hp with h2 | h2
      · exact .inl h2
      · omega
    · rw [List.getElem?_append_right h1] at hp
      have h2 := (List.getElem?_eq_some_iff.1 hp).1
      simp at h2
      rw [show i - ps.length = 0 by omega] at hp
      have hp' : min k m = p := by simpa using hp
      rcases (by omega : least ≤ p ∨ m < least) with h3 | h3
      · exact .inl h3
      · exact .inr ⟨by omega, by rw [List.length_append]; simp; omega⟩
theorem Grp.len {F least n m : Nat} {ps : List Nat} (h : Grp F least n m ps) : ps.length ≤ n := by
  have h1 : ∀ qs : List Nat, (∀ p ∈ qs, 1 ≤ p) → qs.length ≤ qs.sum := by
    intro qs
    induction qs with
    | nil => intro _; exact Nat.le_refl _
    | cons q r ih =>
      intro hq
      have := ih fun p hp => hq p (List.mem_cons_of_mem _ hp)
      have := hq q (List.mem_cons_self ..)
      rw [List.length_cons, List.sum_cons]; omega
  have := h1 ps fun p hp => by obtain ⟨i, hi⟩ := List.mem_iff_getElem?.1 hp; exact (h.le i p hi).1
  have := h.sum
  omega
set_option maxRecDepth 100000 in
set_option maxHeartbeats 2000000 in
end
end Go.Proofs.YtkpbbnpfdighjaaGreat
