/-
 What counters, Chain and Refs of a view answer for a planted tree. Condition: the kit's small configurations.
-/
import Derived.Test.YtjnodgebpklaoaaGreatLkRef
import Derived.Test.YtjnodgebpklaoaaGreatMgPlant
namespace Go.Proofs.YtjnodgebpklaoaaGreat
set_option maxHeartbeats 8000000
set_option maxRecDepth 100000
open Go.RowKit Go.Deep Plain
set_option linter.unusedVariables false

theorem vcounters_any (F : Nat) (h4 : 4 ≤ F) (h6 : F ≤ 6) (g n : Nat) (l : List Cel) (hl : l.length = n) (tot kk : Nat) (htot : cellAt l 4 = ((tot : Int), (⟨#[]⟩ : ByteArray), (0 : Int))) (h100 : tot ≤ 100) (hr : Rest F kk l) (hk100 : kk ≤ 100) (w : World) (hv : Blk w g 54 (flat3 l)) :
  Calls Tryz.prog 78 #[.agg #[.int .i64 1, .int .i64 2, .int .i64 100, .int .i64 100, .int .i64 200, .int .i64 (F : Int), .int .u64 1000, .slice (some ⟨g, 0, none⟩) n n]] w fun e w' => e = .returned (.bool true) ∧ Kept (fun _ => False) w w' := by
 have w1 : IntKind.u64.wrap 100 = 100 := by rfl
 have w2 : IntKind.u64.wrap 200 = 200 := by rfl
 have htI : ¬ (100 : Int) < (tot : Int) := by omega
 have hkI : ¬ (100 : Int) < (kk : Int) := by omega
 have f0 := field0 (0 : Int) 0 ⟨#[]⟩
 have f4 := field0 (tot : Int) 0 ⟨#[]⟩
 have f5 := field0 (kk : Int) 0 ⟨#[]⟩
 have HV0 := Hd hv
 clear hv
 go_enter Tryz.func78, Tryz.ntmps78
 go_upto_region 1 with fail
 have hal := (Kept.refl (fun _ => False) w).alloc (.cells #[.int .i64 1, .int .i64 2, .int .i64 100, .int .i64 100, .int .i64 200, .int .i64 (F : Int), .int .u64 1000, .slice (some ⟨g, 0, none⟩) n n] 63)
 have HB := Hd (Blk.new w [.int .i64 1, .int .i64 2, .int .i64 100, .int .i64 100, .int .i64 200, .int .i64 (F : Int), .int .u64 1000, .slice (some ⟨g, 0, none⟩) n n] 63)
 have HV := Hd (hal.blk HV0.out (fun h => h))
 have HK := Hd hal
 clear hal
 generalize w.alloc (.cells #[.int .i64 1, .int .i64 2, .int .i64 100, .int .i64 100, .int .i64 200, .int .i64 (F : Int), .int .u64 1000, .slice (some ⟨g, 0, none⟩) n n] 63) = W at *
 generalize hr0 : w.heap.size = r0 at *
 have HR0 := Hd hr0
 clear hr0
 refine qregion (fun w' => Kept (fun _ => False) W w') (by kernel_rfl) (by kernel_rfl) (Kept.refl _ _).drew ?_
 refine tkQ 5 ?_ (fun wq hSw => ?_) ?_
 rotate_left
 ·(have hb9 := hSw.blk HB.out (fun h => h); obtain ⟨x0, x1, x2, x3, x4, x5, x6, x7⟩ := hb9.c8; clear hb9; go_simp; try with_reducible rfl)
 try simp only [aP,aA,aZ,aS]
 refine qcall (o := ⟨some 6, _, _, _, _, _⟩) (v := .agg #[.int .u64 0, .string ⟨#[]⟩, .int .u64 0]) (by rfl) (fun wq hSw => ?_) (fun wq hSw => Calls.mono (vat_any F h4 h6 g n l hl 1 0 0 ⟨#[]⟩ _ (hSw.blk HV.out (fun h => h)) (hr.1 1 (by omega))) ?_) ?_
 ·(go_simp; try with_reducible rfl)
 ·rintro e w9 ⟨rfl, hk⟩; exact ⟨rfl, hSw.trans hk (fun _ _ h => h)⟩
 try simp only [aP,aA,aZ,aS]
 refine tkQ 7 ?_ (fun wq hSw => ?_) ?_
 rotate_left
 ·(go_simp; try with_reducible rfl)
 try simp only [aP,aA,aZ,aS]
 refine tkQ 8 ?_ (fun wq hSw => ?_) ?_
 rotate_left
 ·(have hb9 := hSw.blk HB.out (fun h => h); obtain ⟨x0, x1, x2, x3, x4, x5, x6, x7⟩ := hb9.c8; clear hb9; go_simp; try with_reducible rfl)
 try simp only [aP,aA,aZ,aS]
 refine qcall (o := ⟨some 9, _, _, _, _, _⟩) (v := .agg #[.int .u64 0, .string ⟨#[]⟩, .int .u64 0]) (by rfl) (fun wq hSw => ?_) (fun wq hSw => Calls.mono (vat_any F h4 h6 g n l hl 2 0 0 ⟨#[]⟩ _ (hSw.blk HV.out (fun h => h)) (hr.1 2 (by omega))) ?_) ?_
 ·(go_simp; try with_reducible rfl)
 ·rintro e w9 ⟨rfl, hk⟩; exact ⟨rfl, hSw.trans hk (fun _ _ h => h)⟩
 try simp only [aP,aA,aZ,aS]
 refine tkQ 10 ?_ (fun wq hSw => ?_) ?_
 rotate_left
 ·(go_simp; try with_reducible rfl)
 try simp only [aP,aA,aZ,aS]
 refine tkQ 11 (.bool false) (fun wq hSw => ?_) ?_
 ·(go_simp; try first | (with_reducible rfl) | (simp; omega) | (intros; omega) | simp [*])
 try simp only [aP,aA,aZ,aS]
 refine tkQ 12 (.bool false) (fun wq hSw => ?_) ?_
 ·(go_simp; try first | (with_reducible rfl) | (simp; omega) | (intros; omega) | simp [*])
 try simp only [aP,aA,aZ,aS]
 refine tkQ 13 ?_ (fun wq hSw => ?_) ?_
 rotate_left
 ·(have hb9 := hSw.blk HB.out (fun h => h); obtain ⟨x0, x1, x2, x3, x4, x5, x6, x7⟩ := hb9.c8; clear hb9; go_simp; try with_reducible rfl)
 try simp only [aP,aA,aZ,aS]
 refine qcall (o := ⟨some 14, _, _, _, _, _⟩) (v := .agg #[.int .u64 0, .string ⟨#[]⟩, .int .u64 0]) (by rfl) (fun wq hSw => ?_) (fun wq hSw => Calls.mono (vat_any F h4 h6 g n l hl 3 0 0 ⟨#[]⟩ _ (hSw.blk HV.out (fun h => h)) (hr.1 3 (by omega))) ?_) ?_
 ·(go_simp; try with_reducible rfl)
 ·rintro e w9 ⟨rfl, hk⟩; exact ⟨rfl, hSw.trans hk (fun _ _ h => h)⟩
 try simp only [aP,aA,aZ,aS]
 refine tkQ 15 ?_ (fun wq hSw => ?_) ?_
 rotate_left
 ·(go_simp; try with_reducible rfl)
 try simp only [aP,aA,aZ,aS]
 refine tkQ 16 ?_ (fun wq hSw => ?_) ?_
 rotate_left
 ·(have hb9 := hSw.blk HB.out (fun h => h); obtain ⟨x0, x1, x2, x3, x4, x5, x6, x7⟩ := hb9.c8; clear hb9; go_simp; try with_reducible rfl)
 try simp only [aP,aA,aZ,aS]
 refine qcall (o := ⟨some 17, _, _, _, _, _⟩) (v := .agg #[.int .u64 0, .string ⟨#[]⟩, .int .u64 0]) (by rfl) (fun wq hSw => ?_) (fun wq hSw => Calls.mono (vat_any F h4 h6 g n l hl 2 0 0 ⟨#[]⟩ _ (hSw.blk HV.out (fun h => h)) (hr.1 2 (by omega))) ?_) ?_
 ·(go_simp; try with_reducible rfl)
 ·rintro e w9 ⟨rfl, hk⟩; exact ⟨rfl, hSw.trans hk (fun _ _ h => h)⟩
 try simp only [aP,aA,aZ,aS]
 refine tkQ 18 ?_ (fun wq hSw => ?_) ?_
 rotate_left
 ·(go_simp; try with_reducible rfl)
 try simp only [aP,aA,aZ,aS]
 refine tkQ 19 (.bool false) (fun wq hSw => ?_) ?_
 ·(go_simp; try first | (with_reducible rfl) | (simp; omega) | (intros; omega) | simp [*])
 try simp only [aP,aA,aZ,aS]
 refine tkQ 20 (.bool false) (fun wq hSw => ?_) ?_
 ·(go_simp; try first | (with_reducible rfl) | (simp; omega) | (intros; omega) | simp [*])
 try simp only [aP,aA,aZ,aS]
 refine tkQ 21 (.bool false) (fun wq hSw => ?_) ?_
 ·(go_simp; try first | (with_reducible rfl) | (simp; omega) | (intros; omega) | simp [*])
 try simp only [aP,aA,aZ,aS]
 refine tkQ 22 ?_ (fun wq hSw => ?_) ?_
 rotate_left
 ·(have hb9 := hSw.blk HB.out (fun h => h); obtain ⟨x0, x1, x2, x3, x4, x5, x6, x7⟩ := hb9.c8; clear hb9; go_simp; try with_reducible rfl)
 try simp only [aP,aA,aZ,aS]
 refine qcall (o := ⟨some 23, _, _, _, _, _⟩) (v := .agg #[.int .u64 (tot : Int), .string ⟨#[]⟩, .int .u64 0]) (by rfl) (fun wq hSw => ?_) (fun wq hSw => Calls.mono (vat_any F h4 h6 g n l hl 4 (tot : Int) 0 ⟨#[]⟩ _ (hSw.blk HV.out (fun h => h)) htot) ?_) ?_
 ·(go_simp; try with_reducible rfl)
 ·rintro e w9 ⟨rfl, hk⟩; exact ⟨rfl, hSw.trans hk (fun _ _ h => h)⟩
 try simp only [aP,aA,aZ,aS]
 refine tkQ 24 ?_ (fun wq hSw => ?_) ?_
 rotate_left
 ·(go_simp; try with_reducible rfl)
 try simp only [aP,aA,aZ,aS]
 refine tkQ 25 ?_ (fun wq hSw => ?_) ?_
 rotate_left
 ·(go_simp; try with_reducible rfl)
 try simp only [aP,aA,aZ,aS]
 refine tkQ 26 ?_ (fun wq hSw => ?_) ?_
 rotate_left
 ·(go_simp; try with_reducible rfl)
 try simp only [aP,aA,aZ,aS]
 refine tkQ 27 ?_ (fun wq hSw => ?_) ?_
 rotate_left
 ·(have hb9 := hSw.blk HB.out (fun h => h); obtain ⟨x0, x1, x2, x3, x4, x5, x6, x7⟩ := hb9.c8; clear hb9; go_simp; try with_reducible rfl)
 try simp only [aP,aA,aZ,aS]
 refine tkQ 28 (.int .u64 100) (fun wq hSw => ?_) ?_
 ·(go_simp; try first | (with_reducible rfl) | (simp; omega) | (intros; omega) | simp [*])
 try simp only [aP,aA,aZ,aS]
 refine tkQ 29 (.bool false) (fun wq hSw => ?_) ?_
 ·(go_simp; try first | (with_reducible rfl) | (simp; omega) | (intros; omega) | simp [*])
 try simp only [aP,aA,aZ,aS]
 refine tkQ 30 (.bool false) (fun wq hSw => ?_) ?_
 ·(go_simp; try first | (with_reducible rfl) | (simp; omega) | (intros; omega) | simp [*])
 try simp only [aP,aA,aZ,aS]
 refine tkQ 31 (.bool false) (fun wq hSw => ?_) ?_
 ·(go_simp; try first | (with_reducible rfl) | (simp; omega) | (intros; omega) | simp [*])
 try simp only [aP,aA,aZ,aS]
 refine tkQ 32 ?_ (fun wq hSw => ?_) ?_
 rotate_left
 ·(have hb9 := hSw.blk HB.out (fun h => h); obtain ⟨x0, x1, x2, x3, x4, x5, x6, x7⟩ := hb9.c8; clear hb9; go_simp; try with_reducible rfl)
 try simp only [aP,aA,aZ,aS]
 refine qcall (o := ⟨some 33, _, _, _, _, _⟩) (v := .agg #[.int .u64 (kk : Int), .string ⟨#[]⟩, .int .u64 0]) (by rfl) (fun wq hSw => ?_) (fun wq hSw => Calls.mono (vat_any F h4 h6 g n l hl 5 (kk : Int) 0 ⟨#[]⟩ _ (hSw.blk HV.out (fun h => h)) hr.2) ?_) ?_
 ·(go_simp; try with_reducible rfl)
 ·rintro e w9 ⟨rfl, hk⟩; exact ⟨rfl, hSw.trans hk (fun _ _ h => h)⟩
 try simp only [aP,aA,aZ,aS]
 refine tkQ 34 ?_ (fun wq hSw => ?_) ?_
 rotate_left
 ·(go_simp; try with_reducible rfl)
 try simp only [aP,aA,aZ,aS]
 refine tkQ 35 ?_ (fun wq hSw => ?_) ?_
 rotate_left
 ·(go_simp; try with_reducible rfl)
 try simp only [aP,aA,aZ,aS]
 refine tkQ 36 ?_ (fun wq hSw => ?_) ?_
 rotate_left
 ·(go_simp; try with_reducible rfl)
 try simp only [aP,aA,aZ,aS]
 refine tkQ 37 ?_ (fun wq hSw => ?_) ?_
 rotate_left
 ·(have hb9 := hSw.blk HB.out (fun h => h); obtain ⟨x0, x1, x2, x3, x4, x5, x6, x7⟩ := hb9.c8; clear hb9; go_simp; try with_reducible rfl)
 try simp only [aP,aA,aZ,aS]
 refine tkQ 38 (.int .u64 100) (fun wq hSw => ?_) ?_
 ·(go_simp; try first | (with_reducible rfl) | (simp; omega) | (intros; omega) | simp [*])
 try simp only [aP,aA,aZ,aS]
 refine tkQ 39 (.bool false) (fun wq hSw => ?_) ?_
 ·(go_simp; try first | (with_reducible rfl) | (simp; omega) | (intros; omega) | simp [*])
 try simp only [aP,aA,aZ,aS]
 refine tkQ 40 (.bool false) (fun wq hSw => ?_) ?_
 ·(go_simp; try first | (with_reducible rfl) | (simp; omega) | (intros; omega) | simp [*])
 try simp only [aP,aA,aZ,aS]
 refine tkQ 41 (.bool false) (fun wq hSw => ?_) ?_
 ·(go_simp; try first | (with_reducible rfl) | (simp; omega) | (intros; omega) | simp [*])
 try simp only [aP,aA,aZ,aS]
 refine tkQ 42 ?_ (fun wq hSw => ?_) ?_
 rotate_left
 ·(have hb9 := hSw.blk HB.out (fun h => h); obtain ⟨x0, x1, x2, x3, x4, x5, x6, x7⟩ := hb9.c8; clear hb9; go_simp; try with_reducible rfl)
 try simp only [aP,aA,aZ,aS]
 refine qcall (o := ⟨some 43, _, _, _, _, _⟩) (v := .agg #[.int .u64 0, .string ⟨#[]⟩, .int .u64 0]) (by rfl) (fun wq hSw => ?_) (fun wq hSw => Calls.mono (vat_any F h4 h6 g n l hl 6 0 0 ⟨#[]⟩ _ (hSw.blk HV.out (fun h => h)) (hr.1 6 (by omega))) ?_) ?_
 ·(go_simp; try with_reducible rfl)
 ·rintro e w9 ⟨rfl, hk⟩; exact ⟨rfl, hSw.trans hk (fun _ _ h => h)⟩
 try simp only [aP,aA,aZ,aS]
 refine tkQ 44 ?_ (fun wq hSw => ?_) ?_
 rotate_left
 ·(go_simp; try with_reducible rfl)
 try simp only [aP,aA,aZ,aS]
 refine tkQ 45 ?_ (fun wq hSw => ?_) ?_
 rotate_left
 ·(go_simp; try with_reducible rfl)
 try simp only [aP,aA,aZ,aS]
 refine tkQ 46 ?_ (fun wq hSw => ?_) ?_
 rotate_left
 ·(go_simp; try with_reducible rfl)
 try simp only [aP,aA,aZ,aS]
 refine tkQ 47 ?_ (fun wq hSw => ?_) ?_
 rotate_left
 ·(have hb9 := hSw.blk HB.out (fun h => h); obtain ⟨x0, x1, x2, x3, x4, x5, x6, x7⟩ := hb9.c8; clear hb9; go_simp; try with_reducible rfl)
 try simp only [aP,aA,aZ,aS]
 refine tkQ 48 (.int .u64 200) (fun wq hSw => ?_) ?_
 ·(go_simp; try first | (with_reducible rfl) | (simp; omega) | (intros; omega) | simp [*])
 try simp only [aP,aA,aZ,aS]
 refine tkQ 49 (.bool false) (fun wq hSw => ?_) ?_
 ·(go_simp; try first | (with_reducible rfl) | (simp; omega) | (intros; omega) | simp [*])
 try simp only [aP,aA,aZ,aS]
 refine tkQ 50 (.bool false) (fun wq hSw => ?_) ?_
 ·(go_simp; try first | (with_reducible rfl) | (simp; omega) | (intros; omega) | simp [*])
 try simp only [aP,aA,aZ,aS]
 refine tkQ 51 (.bool false) (fun wq hSw => ?_) ?_
 ·(go_simp; try first | (with_reducible rfl) | (simp; omega) | (intros; omega) | simp [*])
 try simp only [aP,aA,aZ,aS]
 refine tkQ 52 ?_ (fun wq hSw => ?_) ?_
 rotate_left
 ·(have hb9 := hSw.blk HB.out (fun h => h); obtain ⟨x0, x1, x2, x3, x4, x5, x6, x7⟩ := hb9.c8; clear hb9; go_simp; try with_reducible rfl)
 try simp only [aP,aA,aZ,aS]
 refine qcall (o := ⟨some 53, _, _, _, _, _⟩) (v := .agg #[.int .u64 0, .string ⟨#[]⟩, .int .u64 0]) (by rfl) (fun wq hSw => ?_) (fun wq hSw => Calls.mono (vat_any F h4 h6 g n l hl 7 0 0 ⟨#[]⟩ _ (hSw.blk HV.out (fun h => h)) (hr.1 7 (by omega))) ?_) ?_
 ·(go_simp; try with_reducible rfl)
 ·rintro e w9 ⟨rfl, hk⟩; exact ⟨rfl, hSw.trans hk (fun _ _ h => h)⟩
 try simp only [aP,aA,aZ,aS]
 refine tkQ 54 ?_ (fun wq hSw => ?_) ?_
 rotate_left
 ·(go_simp; try with_reducible rfl)
 try simp only [aP,aA,aZ,aS]
 refine tkQ 55 (.int .u64 0) (fun wq hSw => ?_) ?_
 ·(go_simp; try first | (with_reducible rfl) | (simp; omega) | (intros; omega) | simp [*])
 try simp only [aP,aA,aZ,aS]
 refine tkQ 56 (.bool false) (fun wq hSw => ?_) ?_
 ·(go_simp; try first | (with_reducible rfl) | (simp; omega) | (intros; omega) | simp [*])
 try simp only [aP,aA,aZ,aS]
 refine tkQ 57 (.bool false) (fun wq hSw => ?_) ?_
 ·(go_simp; try first | (with_reducible rfl) | (simp; omega) | (intros; omega) | simp [*])
 try simp only [aP,aA,aZ,aS]
 refine wpQuiet_nil ?_
 intro wz hHeld
 have HB1 := Hd (hHeld.blk HB.out (fun h => h))
 have HV1 := Hd (hHeld.blk HV.out (fun h => h))
 have HK1 := Hd (HK.out.trans hHeld (fun _ _ h => h))
 clear hHeld HB HV HK
 rename World => V1
 go_wp2_with fail
 go_loopw [3] (fun iv wr => ∃ i : Nat, 8 ≤ i ∧ i ≤ 10 ∧ iv = .int .i64 (i : Int) ∧ Kept (fun _ => False) V1 wr) (fun iv _ => 10 - (intOf iv).toNat)
 case atStart => exact ⟨8, by omega, by omega, rfl, Kept.refl _ _⟩
 case round =>
  obtain ⟨i, hi1, hi2, rfl, hKr⟩ := hrel
  have HBr := Hd (hKr.blk HB1.out (fun h => h))
  have HVr := Hd (hKr.blk HV1.out (fun h => h))
  have HKr := Hd (HK1.out.trans hKr (fun _ _ h => h))
  have HK0 := Hd hKr
  clear hKr
  have hb9 := HBr.out
  obtain ⟨x0, x1, x2, x3, x4, x5, x6, x7⟩ := hb9.c8
  clear hb9
  have HA := Hd (show Calls Tryz.prog 54 #[.agg #[.int .i64 1, .int .i64 2, .int .i64 100, .int .i64 100, .int .i64 200, .int .i64 (F : Int), .int .u64 1000]] wr fun e w' => e = .returned (.int .i64 10) ∧ Kept (fun _ => False) wr w' from refA_any 1 2 100 100 200 (F : Int) 1000 (limF h4 h6) wr)
  by_cases hlt : i < 10
  ·have hltI : (i : Int) < 10 := by omega
   go_wp2_with fail
   refine HA.out.mono ?_; rintro e w2 ⟨rfl, hK2⟩
   have HB2 := Hd (hK2.blk HBr.out (fun h => h))
   have HV2 := Hd (hK2.blk HVr.out (fun h => h))
   have HK2 := Hd (HK0.out.trans hK2 (fun _ _ h => h))
   clear hK2 x0 x1 x2 x3 x4 x5 x6 x7 HA
   have hb9 := HB2.out
   obtain ⟨x0, x1, x2, x3, x4, x5, x6, x7⟩ := hb9.c8
   clear hb9
   go_wp2_with fail
   refine (vat_any F h4 h6 g n l hl (i : Int) 0 0 ⟨#[]⟩ _ HV2.out (hr.1 (i : Int) (by omega))).mono ?_; rintro e w3 ⟨rfl, hK3⟩
   have HK3 := Hd (HK2.out.trans hK3 (fun _ _ h => h))
   clear hK3 x0 x1 x2 x3 x4 x5 x6 x7
   go_wp2
   go_roundw
   case rel => exact ⟨i + 1, by omega, by omega, by go_num, HK3.out⟩
   case measure => simp [intOf]; omega
  ·have hltI : ¬ (i : Int) < 10 := by omega
   go_wp2_with fail
   refine HA.out.mono ?_; rintro e w2 ⟨rfl, hK2⟩
   have HK2 := Hd (HKr.out.trans hK2 (fun _ _ h => h))
   clear hK2
   go_wp2
   go_ret
   refine ⟨rfl, ?_⟩
   have := HK2.out
   exact this

theorem vchain_zero (F : Nat) (h4 : 4 ≤ F) (h6 : F ≤ 6) (g n : Nat) (l : List Cel) (hl : l.length = n) (kk c : Nat) (hr : Rest F kk l) (hc1 : 1 ≤ c) (hc2 : c ≤ 100) (w : World) (hv : Blk w g 54 (flat3 l)) :
  Calls Tryz.prog 126 #[.agg #[.int .i64 1, .int .i64 2, .int .i64 100, .int .i64 100, .int .i64 200, .int .i64 (F : Int), .int .u64 1000, .slice (some ⟨g, 0, none⟩) n n], .int .u64 (c : Int)] w fun e w' => e = .returned (.slice none 0 0) ∧ Kept (fun _ => False) w w' := by
 obtain ⟨a, ha⟩ : ∃ a, chainAt 100 (firstChain 1 2 100 (F : Int)) (c : Int) = a := ⟨_, rfl⟩
 have HCH := Hd (show ∀ W, Calls Tryz.prog 125 #[.agg #[.int .i64 1, .int .i64 2, .int .i64 100, .int .i64 100, .int .i64 200, .int .i64 (F : Int), .int .u64 1000], .int .u64 (c : Int)] W fun e w' => e = .returned (.int .i64 a) ∧ Kept (fun _ => False) W w' from fun W => by
  have h := refChain_any 1 2 100 100 200 (F : Int) 1000 (c : Int) (limF h4 h6) (by omega) W
  rw [ha] at h; exact h)
 have HRC := Hd (show ∀ W, Calls Tryz.prog 164 #[.agg #[.int .i64 1, .int .i64 2, .int .i64 100, .int .i64 100, .int .i64 200, .int .i64 (F : Int), .int .u64 1000], .int .u64 0, .int .i64 0] W fun e w' => e = .returned (.int .i64 (-1)) ∧ Kept (fun _ => False) W w' from fun W =>
  refRec_any 1 2 100 100 200 (F : Int) 1000 0 0 (limF h4 h6) (by omega) (by omega) (by omega) W)
 have HCA := Hd (show cellAt l a = ((0 : Int), (⟨#[]⟩ : ByteArray), (0 : Int)) from hr.1 a (.inr (.inr (by
  rw [← ha]; unfold chainAt firstChain firstNode; rw [if_pos (by omega)]; omega))))
 clear ha
 have f0 := field0 (0 : Int) 0 ⟨#[]⟩
 have HV0 := Hd hv
 clear hv
 go_enter Tryz.func126, Tryz.ntmps126
 go_upto_region 2 with fail
 have hal := (Kept.refl (fun _ => False) w).alloc (.cells #[.int .i64 1, .int .i64 2, .int .i64 100, .int .i64 100, .int .i64 200, .int .i64 (F : Int), .int .u64 1000, .slice (some ⟨g, 0, none⟩) n n] 63)
 have HB := Hd (Blk.new w [.int .i64 1, .int .i64 2, .int .i64 100, .int .i64 100, .int .i64 200, .int .i64 (F : Int), .int .u64 1000, .slice (some ⟨g, 0, none⟩) n n] 63)
 have HV := Hd (hal.blk HV0.out (fun h => h))
 have HK := Hd hal
 clear hal
 generalize w.alloc (.cells #[.int .i64 1, .int .i64 2, .int .i64 100, .int .i64 100, .int .i64 200, .int .i64 (F : Int), .int .u64 1000, .slice (some ⟨g, 0, none⟩) n n] 63) = W at *
 generalize hr0 : w.heap.size = r0 at *
 have HR0 := Hd hr0
 clear hr0
 refine qregion (fun w' => Kept (fun _ => False) W w') (by kernel_rfl) (by kernel_rfl) (Kept.refl _ _).drew ?_
 refine tkQ 9 ?_ (fun wq hSw => ?_) ?_
 rotate_left
 ·(have hb9 := hSw.blk HB.out (fun h => h); obtain ⟨x0, x1, x2, x3, x4, x5, x6, x7⟩ := hb9.c8; clear hb9; go_simp; try with_reducible rfl)
 try simp only [aP,aA,aZ,aS]
 refine tkQ 10 ?_ (fun wq hSw => ?_) ?_
 rotate_left
 ·(go_simp; try with_reducible rfl)
 try simp only [aP,aA,aZ,aS]
 refine tkQ 11 ?_ (fun wq hSw => ?_) ?_
 rotate_left
 ·(have hb9 := hSw.blk HB.out (fun h => h); obtain ⟨x0, x1, x2, x3, x4, x5, x6, x7⟩ := hb9.c8; clear hb9; go_simp; try with_reducible rfl)
 try simp only [aP,aA,aZ,aS]
 refine tkQ 12 ?_ (fun wq hSw => ?_) ?_
 rotate_left
 ·(go_simp; try with_reducible rfl)
 try simp only [aP,aA,aZ,aS]
 refine qcall (o := ⟨some 13, _, _, _, _, _⟩) (v := .int .i64 a) (by rfl) (fun wq hSw => ?_) (fun wq hSw => Calls.mono (HCH.out _) ?_) ?_
 ·(go_simp; try with_reducible rfl)
 ·rintro e w9 ⟨rfl, hk⟩; exact ⟨rfl, hSw.trans hk (fun _ _ h => h)⟩
 try simp only [aP,aA,aZ,aS]
 refine qcall (o := ⟨some 14, _, _, _, _, _⟩) (v := .agg #[.int .u64 0, .string ⟨#[]⟩, .int .u64 0]) (by rfl) (fun wq hSw => ?_) (fun wq hSw => Calls.mono (vat_any F h4 h6 g n l hl a 0 0 ⟨#[]⟩ _ (hSw.blk HV.out (fun h => h)) HCA.out) ?_) ?_
 ·(go_simp; try with_reducible rfl)
 ·rintro e w9 ⟨rfl, hk⟩; exact ⟨rfl, hSw.trans hk (fun _ _ h => h)⟩
 try simp only [aP,aA,aZ,aS]
 refine tkQ 15 ?_ (fun wq hSw => ?_) ?_
 rotate_left
 ·(go_simp; try with_reducible rfl)
 try simp only [aP,aA,aZ,aS]
 refine tkQ 6 ?_ (fun wq hSw => ?_) ?_
 rotate_left
 ·(go_simp; try with_reducible rfl)
 try simp only [aP,aA,aZ,aS]
 refine wpQuiet_nil ?_
 intro wz hHeld
 have HB1 := Hd (hHeld.blk HB.out (fun h => h))
 have HK1 := Hd (HK.out.trans hHeld (fun _ _ h => h))
 clear hHeld HB HV HK
 rename World => V1
 go_wp2_with fail
 go_loopw [5, 6, 7] (fun ov rv kv wr => ov = .slice none 0 0 ∧ rv = .int .u64 0 ∧ kv = .int .i64 0 ∧ Kept (fun _ => False) V1 wr) (fun _ _ _ _ => 0)
 case atStart => exact ⟨rfl, rfl, rfl, Kept.refl _ _⟩
 case round =>
  obtain ⟨rfl, rfl, rfl, hKr⟩ := hrel
  have hb9 := hKr.blk HB1.out (fun h => h)
  obtain ⟨x0, x1, x2, x3, x4, x5, x6, x7⟩ := hb9.c8
  have HKr := Hd (HK1.out.trans hKr (fun _ _ h => h))
  clear hb9 hKr
  go_wp2_with fail
  refine (HRC.out _).mono ?_; rintro e w2 ⟨rfl, hK2⟩
  have HK2 := Hd (HKr.out.trans hK2 (fun _ _ h => h))
  clear hK2
  go_wp2
  go_ret
  refine ⟨rfl, ?_⟩
  have := HK2.out
  exact this

theorem refCheck9_nil (w : World) :
  Calls Tryz.prog 127 #[.slice none 0 0] w fun e w' => e = .returned (.bool true) ∧ w = w' := by
 go_enter Tryz.func127, Tryz.ntmps127
 go_wp2_with fail
 go_loopw [3] (fun iv wr => iv = .int .i64 0 ∧ wr = w) (fun _ _ => 0)
 case atStart => exact ⟨rfl, rfl⟩
 case round =>
  obtain ⟨rfl, rfl⟩ := hrel
  go_wp2
  go_ret
  exact ⟨rfl, rfl⟩

theorem wds_snoc (ps : List Nat) (p : Nat) : wds (ps ++ [p]) = wds ps ++ [.int .u64 (p : Int)] := by unfold wds; rw [List.map_append]; rfl
end Go.Proofs.YtjnodgebpklaoaaGreat
