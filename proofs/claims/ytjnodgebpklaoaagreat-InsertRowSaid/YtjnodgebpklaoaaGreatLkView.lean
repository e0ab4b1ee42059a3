/-
 What the cells of a memory as plain data and the kit's group answer. Condition: the kit's small configurations.
-/
import Derived.Test.YtjnodgebpklaoaaGreatLkPutK
namespace Go.Proofs.YtjnodgebpklaoaaGreat
set_option maxHeartbeats 8000000
set_option maxRecDepth 100000
section
open Go.RowKit Go.Deep Plain
set_option linter.unusedVariables false

theorem vat_in (F : Nat) (h4 : 4 ≤ F) (h6 : F ≤ 6) (g n : Nat) (l : List Cel) (hl : l.length = n) (i : Nat) (N M : Int) (K : ByteArray) (w : World) (hv : Blk w g 54 (flat3 l)) (hi : i < n) (hc : l[i]? = some (N, K, M)) :
  Calls Tryz.prog 77 #[.agg #[.int .i64 1, .int .i64 2, .int .i64 100, .int .i64 100, .int .i64 200, .int .i64 (F : Int), .int .u64 1000, .slice (some ⟨g, 0, none⟩) n n], .int .i64 i] w fun e w' => e = .returned (.agg #[.int .u64 N, .string K, .int .u64 M]) ∧ Kept (fun _ => False) w w' := by
 obtain ⟨f1, f2, f3⟩ := flat3_at l i _ hc
 have d1 := hv.cell f1
 have d2 := hv.cell f2
 have d3 := hv.cell f3
 have hg := hv.lt
 have p1 : ¬ ((i : Int) < 0) := by omega
 have p2 : (i : Int) < (n : Int) := by omega
 have p3 : decide ((i : Int) < 0) = false := decide_eq_false p1
 have p4 : decide ((i : Int) < (n : Int)) = true := decide_eq_true p2
 have HL := Hd hl
 clear f1 f2 f3 hc hl
 go_enter Tryz.func77, Tryz.ntmps77
 go_wp2
 refine bodyPost_ret (v := .agg #[.int .u64 N, .string K, .int .u64 M]) (by simp [results, Tryz.results77, go_sem]) rfl ⟨rfl, ?_⟩
 have hK := ((Kept.refl (fun _ => False) w).alloc (.cells #[.int .i64 1, .int .i64 2, .int .i64 100, .int .i64 100, .int .i64 200, .int .i64 (F : Int), .int .u64 1000, .slice (some ⟨g, 0, none⟩) n n] 63)).alloc (.cells #[.int .u64 0, .string ⟨#[]⟩, .int .u64 0] 54)
 first
  | exact hK
  | exact ((hK.setNew (b := w.heap.size + 1) (by omega) 0 _).setNew (b := w.heap.size + 1) (by omega) 1 _).setNew (b := w.heap.size + 1) (by omega) 2 _
  | exact ((Kept.refl _ _).alloc _).alloc _

theorem vat_out (F : Nat) (h4 : 4 ≤ F) (h6 : F ≤ 6) (g n : Nat) (l : List Cel) (hl : l.length = n) (i : Int) (w : World) (hv : Blk w g 54 (flat3 l)) (hi : i < 0 ∨ (n : Int) ≤ i) :
  Calls Tryz.prog 77 #[.agg #[.int .i64 1, .int .i64 2, .int .i64 100, .int .i64 100, .int .i64 200, .int .i64 (F : Int), .int .u64 1000, .slice (some ⟨g, 0, none⟩) n n], .int .i64 i] w fun e w' => e = .returned (.agg #[.int .u64 0, .string ⟨#[]⟩, .int .u64 0]) ∧ Kept (fun _ => False) w w' := by
 have hg := hv.lt
 have HL := Hd hl
 clear hl
 rcases (by omega : i < 0 ∨ (¬ i < 0 ∧ (n : Int) ≤ i)) with hi | hi
 ·have p3 : decide (i < 0) = true := decide_eq_true (by omega)
  go_enter Tryz.func77, Tryz.ntmps77
  go_wp2
  refine bodyPost_ret (v := .agg #[.int .u64 0, .string ⟨#[]⟩, .int .u64 0]) (by simp [results, Tryz.results77, go_sem]) rfl ⟨rfl, ?_⟩
  exact ((Kept.refl _ _).alloc _).alloc _
 ·have p3 : decide (i < 0) = false := decide_eq_false (by omega)
  have p2 : ¬ i < (n : Int) := by omega
  have p1 : ¬ i < 0 := by omega
  have p4 : decide (i < (n : Int)) = false := decide_eq_false (by omega)
  go_enter Tryz.func77, Tryz.ntmps77
  go_wp2
  refine bodyPost_ret (v := .agg #[.int .u64 0, .string ⟨#[]⟩, .int .u64 0]) (by simp [results, Tryz.results77, go_sem]) rfl ⟨rfl, ?_⟩
  exact ((Kept.refl _ _).alloc _).alloc _

theorem vat_any (F : Nat) (h4 : 4 ≤ F) (h6 : F ≤ 6) (g n : Nat) (l : List Cel) (hl : l.length = n) (i : Int) (N M : Int) (K : ByteArray) (w : World) (hv : Blk w g 54 (flat3 l)) (hc : cellAt l i = (N, K, M)) :
  Calls Tryz.prog 77 #[.agg #[.int .i64 1, .int .i64 2, .int .i64 100, .int .i64 100, .int .i64 200, .int .i64 (F : Int), .int .u64 1000, .slice (some ⟨g, 0, none⟩) n n], .int .i64 i] w fun e w' => e = .returned (.agg #[.int .u64 N, .string K, .int .u64 M]) ∧ Kept (fun _ => False) w w' := by
 by_cases hi : 0 ≤ i ∧ i < n
 ·obtain ⟨j, rfl⟩ : ∃ j : Nat, i = j := ⟨i.toNat, by omega⟩
  rw [cellAt_in l j (by omega)] at hc
  exact vat_in F h4 h6 g n l hl j N M K w hv (by omega) (by rw [List.getElem?_eq_getElem (by omega), hc])
 ·rw [cellAt_out l i (by omega)] at hc
  obtain ⟨rfl, rfl, rfl⟩ : (0 : Int) = N ∧ (⟨#[]⟩ : ByteArray) = K ∧ (0 : Int) = M := by unfold cel0 at hc; simpa using hc
  exact vat_out F h4 h6 g n l hl i w hv (by omega)
theorem vpart_any (F : Nat) (h4 : 4 ≤ F) (h6 : F ≤ 6) (g n : Nat) (l : List Cel) (hl : l.length = n) (nid part : Nat) (hp : part < F + 4) (a : Int) (ha : nodeAt 100 (F : Int) 10 (nid : Int) (part : Int) = a) (N M : Int) (K : ByteArray) (w : World) (hv : Blk w g 54 (flat3 l)) (hc : cellAt l a = (N, K, M)) :
  Calls Tryz.prog 128 #[.agg #[.int .i64 1, .int .i64 2, .int .i64 100, .int .i64 100, .int .i64 200, .int .i64 (F : Int), .int .u64 1000, .slice (some ⟨g, 0, none⟩) n n], .int .u64 (nid : Int), .int .i64 (part : Int)] w fun e w' => e = .returned (.agg #[.int .u64 N, .string K, .int .u64 M]) ∧ Kept (fun _ => False) w w' := by
 have HV0 := Hd hv
 have HC := Hd hc
 have hrl : nodeAt 100 (F : Int) 10 (nid : Int) (part : Int) = a := ha
 clear hv hc
 go_enter Tryz.func128, Tryz.ntmps128
 go_wp2_with fail
 have hal := ((Kept.refl (fun _ => False) w).alloc (.cells #[.int .i64 1, .int .i64 2, .int .i64 100, .int .i64 100, .int .i64 200, .int .i64 (F : Int), .int .u64 1000, .slice (some ⟨g, 0, none⟩) n n] 63)).alloc (.cells #[.int .u64 0, .string ⟨#[]⟩, .int .u64 0] 54)
 have HB := Hd ((Blk.new w [.int .i64 1, .int .i64 2, .int .i64 100, .int .i64 100, .int .i64 200, .int .i64 (F : Int), .int .u64 1000, .slice (some ⟨g, 0, none⟩) n n] 63).alloc (.cells #[.int .u64 0, .string ⟨#[]⟩, .int .u64 0] 54))
 have hNN := Blk.new (w.alloc (.cells #[.int .i64 1, .int .i64 2, .int .i64 100, .int .i64 100, .int .i64 200, .int .i64 (F : Int), .int .u64 1000, .slice (some ⟨g, 0, none⟩) n n] 63)) [.int .u64 0, .string ⟨#[]⟩, .int .u64 0] 54
 have hsz1 : (w.alloc (.cells #[.int .i64 1, .int .i64 2, .int .i64 100, .int .i64 100, .int .i64 200, .int .i64 (F : Int), .int .u64 1000, .slice (some ⟨g, 0, none⟩) n n] 63)).heap.size = w.heap.size + 1 := nblk_alloc _ _
 rw [hsz1] at hNN
 have HN := Hd hNN
 have HV := Hd (hal.blk HV0.out (fun h => h))
 have HK := Hd hal
 clear hal hNN hsz1
 generalize (w.alloc (.cells #[.int .i64 1, .int .i64 2, .int .i64 100, .int .i64 100, .int .i64 200, .int .i64 (F : Int), .int .u64 1000, .slice (some ⟨g, 0, none⟩) n n] 63)).alloc (.cells #[.int .u64 0, .string ⟨#[]⟩, .int .u64 0] 54) = W at *
 have HW := Hd (Kept.refl (fun _ => False) W)
 generalize hr1 : w.heap.size + 1 = r1 at *
 generalize hr0 : w.heap.size = r0 at *
 have HR := Hd (show r1 = r0 + 1 by omega)
 have HR0 := Hd hr0.symm
 clear hr0 hr1
 refine qtail 7 (fun w' => Kept (fun _ => False) W w') (by kernel_rfl) (by kernel_rfl) HW.out.drew ?_
 simp only [List.take_succ_cons, List.take_zero, List.drop_succ_cons, List.drop_zero]
 refine tkQ 7 ?_ (fun wq hSw => ?_) ?_
 rotate_left
 ·(have hb9 := hSw.blk HB.out (fun h => h); obtain ⟨x0, x1, x2, x3, x4, x5, x6, x7⟩ := hb9.c8; clear hb9; go_simp; try with_reducible rfl)
 try simp only [aP,aA,aZ,aS]
 refine tkQ 8 ?_ (fun wq hSw => ?_) ?_
 rotate_left
 ·(go_simp; try with_reducible rfl)
 try simp only [aP,aA,aZ,aS]
 refine tkQ 9 ?_ (fun wq hSw => ?_) ?_
 rotate_left
 ·(have hb9 := hSw.blk HB.out (fun h => h); obtain ⟨x0, x1, x2, x3, x4, x5, x6, x7⟩ := hb9.c8; clear hb9; go_simp; try with_reducible rfl)
 try simp only [aP,aA,aZ,aS]
 refine tkQ 10 ?_ (fun wq hSw => ?_) ?_
 rotate_left
 ·(go_simp; try with_reducible rfl)
 try simp only [aP,aA,aZ,aS]
 refine tkQ 11 ?_ (fun wq hSw => ?_) ?_
 rotate_left
 ·(go_simp; try with_reducible rfl)
 try simp only [aP,aA,aZ,aS]
 refine qcall (o := ⟨some 12, _, _, _, _, _⟩) (v := .int .i64 a) (by rfl) (fun wq hSw => ?_) (fun wq hSw => Calls.mono (ref_to F nid part h4 h6 hp a hrl _) ?_) ?_
 ·(go_simp; try with_reducible rfl)
 ·rintro e w9 ⟨rfl, hk⟩; exact ⟨rfl, hSw.trans hk (fun _ _ h => h)⟩
 try simp only [aP,aA,aZ,aS]
 refine qcall (o := ⟨some 13, _, _, _, _, _⟩) (v := .agg #[.int .u64 N, .string K, .int .u64 M]) (by rfl) (fun wq hSw => ?_) (fun wq hSw => Calls.mono (vat_any F h4 h6 g n l hl a N M K _ (hSw.blk HV.out (fun h => h)) HC.out) ?_) ?_
 ·(go_simp; try with_reducible rfl)
 ·rintro e w9 ⟨rfl, hk⟩; exact ⟨rfl, hSw.trans hk (fun _ _ h => h)⟩
 try simp only [aP,aA,aZ,aS]
 refine wpQuiet_nil ?_
 intro wz hHeld
 have hn9 := hHeld.blk HN.out (fun h => h)
 obtain ⟨x0, x1, x2⟩ := hn9.c3
 have z0 := hn9.frozen 0
 have z1 := hn9.frozen 1
 have z2 := hn9.frozen 2
 have HK5 := Hd ((((HK.out.trans hHeld (fun _ _ h => h)).setNew (b := r1) (by rw [HR.out, HR0.out]; omega) 0 (.int .u64 N)).setNew (b := r1) (by rw [HR.out, HR0.out]; omega) 1 (.string K)).setNew (b := r1) (by rw [HR.out, HR0.out]; omega) 2 (.int .u64 M))
 have HN2 := Hd (((hn9.set 0 (.int .u64 N)).set 1 (.string K)).set 2 (.int .u64 M))
 clear hn9 hHeld
 go_wp2
 obtain ⟨q0, q1, q2⟩ := HN2.out.c3
 refine bodyPost_ret (v := .agg #[.int .u64 N, .string K, .int .u64 M]) ?_ rfl ⟨rfl, HK5.out⟩
 simp [results, Tryz.results128, go_sem, q0, q1, q2]

theorem vnode_in (F : Nat) (h4 : 4 ≤ F) (h6 : F ≤ 6) (g n : Nat) (l : List Cel) (hl : l.length = n) (nid tot : Nat) (M4 : Int) (K4 : ByteArray) (h1 : 1 ≤ nid) (h2 : nid ≤ 100) (h3 : nid ≤ tot) (w : World) (hv : Blk w g 54 (flat3 l)) (hc : cellAt l 4 = ((tot : Int), K4, M4)) :
  Calls Tryz.prog 76 #[.agg #[.int .i64 1, .int .i64 2, .int .i64 100, .int .i64 100, .int .i64 200, .int .i64 (F : Int), .int .u64 1000, .slice (some ⟨g, 0, none⟩) n n], .int .u64 (nid : Int)] w fun e w' => e = .returned (.bool true) ∧ Kept (fun _ => False) w w' := by
 have HV0 := Hd hv
 have HC := Hd hc
 have hfd := field0 (tot : Int) M4 K4
 have p1 : (1 : Int) ≤ (nid : Int) := by omega
 have p2 : (nid : Int) ≤ 100 := by omega
 have p3 : (nid : Int) ≤ (tot : Int) := by omega
 have p4 : ¬ (nid : Int) < 1 := by omega
 have p5 : ¬ (100 : Int) < (nid : Int) := by omega
 have p6 : ¬ (tot : Int) < (nid : Int) := by omega
 clear hv hc
 have x0 := (Blk.new w [.int .i64 1, .int .i64 2, .int .i64 100, .int .i64 100, .int .i64 200, .int .i64 (F : Int), .int .u64 1000, .slice (some ⟨g, 0, none⟩) n n] 63).k 0 rfl
 have x1 := (Blk.new w [.int .i64 1, .int .i64 2, .int .i64 100, .int .i64 100, .int .i64 200, .int .i64 (F : Int), .int .u64 1000, .slice (some ⟨g, 0, none⟩) n n] 63).k 1 rfl
 have x2 := (Blk.new w [.int .i64 1, .int .i64 2, .int .i64 100, .int .i64 100, .int .i64 200, .int .i64 (F : Int), .int .u64 1000, .slice (some ⟨g, 0, none⟩) n n] 63).k 2 rfl
 have x3 := (Blk.new w [.int .i64 1, .int .i64 2, .int .i64 100, .int .i64 100, .int .i64 200, .int .i64 (F : Int), .int .u64 1000, .slice (some ⟨g, 0, none⟩) n n] 63).k 3 rfl
 have x4 := (Blk.new w [.int .i64 1, .int .i64 2, .int .i64 100, .int .i64 100, .int .i64 200, .int .i64 (F : Int), .int .u64 1000, .slice (some ⟨g, 0, none⟩) n n] 63).k 4 rfl
 have x5 := (Blk.new w [.int .i64 1, .int .i64 2, .int .i64 100, .int .i64 100, .int .i64 200, .int .i64 (F : Int), .int .u64 1000, .slice (some ⟨g, 0, none⟩) n n] 63).k 5 rfl
 have x6 := (Blk.new w [.int .i64 1, .int .i64 2, .int .i64 100, .int .i64 100, .int .i64 200, .int .i64 (F : Int), .int .u64 1000, .slice (some ⟨g, 0, none⟩) n n] 63).k 6 rfl
 have x7 := (Blk.new w [.int .i64 1, .int .i64 2, .int .i64 100, .int .i64 100, .int .i64 200, .int .i64 (F : Int), .int .u64 1000, .slice (some ⟨g, 0, none⟩) n n] 63).k 7 rfl
 go_enter Tryz.func76, Tryz.ntmps76
 go_wp2_with fail
 refine (vat_any F h4 h6 g n l hl 4 (tot : Int) M4 K4 _ (HV0.out.alloc _) HC.out).mono ?_; rintro e w1 ⟨rfl, hK1⟩
 have HK1 := Hd (((Kept.refl (fun _ => False) w).alloc (.cells #[.int .i64 1, .int .i64 2, .int .i64 100, .int .i64 100, .int .i64 200, .int .i64 (F : Int), .int .u64 1000, .slice (some ⟨g, 0, none⟩) n n] 63)).trans hK1 (fun _ _ h => h))
 clear hK1
 go_wp2
 go_ret
 exact ⟨rfl, HK1.out⟩

theorem vnode_zero (F : Nat) (h4 : 4 ≤ F) (h6 : F ≤ 6) (g n : Nat) (l : List Cel) (hl : l.length = n) (nid tot : Nat) (M4 : Int) (K4 : ByteArray) (h1 : nid = 0) (w : World) (hv : Blk w g 54 (flat3 l)) (hc : cellAt l 4 = ((tot : Int), K4, M4)) :
  Calls Tryz.prog 76 #[.agg #[.int .i64 1, .int .i64 2, .int .i64 100, .int .i64 100, .int .i64 200, .int .i64 (F : Int), .int .u64 1000, .slice (some ⟨g, 0, none⟩) n n], .int .u64 (nid : Int)] w fun e w' => e = .returned (.bool false) ∧ Kept (fun _ => False) w w' := by
 have HV0 := Hd hv
 have HC := Hd hc
 have hfd := field0 (tot : Int) M4 K4
 have p1 : ¬ (1 : Int) ≤ (nid : Int) := by omega
 have p4 : (nid : Int) < 1 := by omega
 clear h1
 clear hv hc
 have x0 := (Blk.new w [.int .i64 1, .int .i64 2, .int .i64 100, .int .i64 100, .int .i64 200, .int .i64 (F : Int), .int .u64 1000, .slice (some ⟨g, 0, none⟩) n n] 63).k 0 rfl
 have x1 := (Blk.new w [.int .i64 1, .int .i64 2, .int .i64 100, .int .i64 100, .int .i64 200, .int .i64 (F : Int), .int .u64 1000, .slice (some ⟨g, 0, none⟩) n n] 63).k 1 rfl
 have x2 := (Blk.new w [.int .i64 1, .int .i64 2, .int .i64 100, .int .i64 100, .int .i64 200, .int .i64 (F : Int), .int .u64 1000, .slice (some ⟨g, 0, none⟩) n n] 63).k 2 rfl
 have x3 := (Blk.new w [.int .i64 1, .int .i64 2, .int .i64 100, .int .i64 100, .int .i64 200, .int .i64 (F : Int), .int .u64 1000, .slice (some ⟨g, 0, none⟩) n n] 63).k 3 rfl
 have x4 := (Blk.new w [.int .i64 1, .int .i64 2, .int .i64 100, .int .i64 100, .int .i64 200, .int .i64 (F : Int), .int .u64 1000, .slice (some ⟨g, 0, none⟩) n n] 63).k 4 rfl
 have x5 := (Blk.new w [.int .i64 1, .int .i64 2, .int .i64 100, .int .i64 100, .int .i64 200, .int .i64 (F : Int), .int .u64 1000, .slice (some ⟨g, 0, none⟩) n n] 63).k 5 rfl
 have x6 := (Blk.new w [.int .i64 1, .int .i64 2, .int .i64 100, .int .i64 100, .int .i64 200, .int .i64 (F : Int), .int .u64 1000, .slice (some ⟨g, 0, none⟩) n n] 63).k 6 rfl
 have x7 := (Blk.new w [.int .i64 1, .int .i64 2, .int .i64 100, .int .i64 100, .int .i64 200, .int .i64 (F : Int), .int .u64 1000, .slice (some ⟨g, 0, none⟩) n n] 63).k 7 rfl
 go_enter Tryz.func76, Tryz.ntmps76
 go_wp2_with fail
 go_wp2
 go_ret
 exact ⟨rfl, (Kept.refl _ _).alloc _⟩
end

section
open Go.RowKit Go.Deep Plain
set_option linter.unusedVariables false

end
end Go.Proofs.YtjnodgebpklaoaaGreat
