/-
 A View's chains of such a tree: no versions. Condition: a fanout of four to six.
-/
import Derived.Test.YtjnodgebpklaoaaGreatTgSndA
import Derived.Test.YtjnodgebpklaoaaGreatLkSndA
namespace Go.Proofs.YtjnodgebpklaoaaGreat
set_option maxHeartbeats 8000000
set_option maxRecDepth 100000
section
open Go.RowKit Go.Deep Plain
set_option linter.unusedVariables false

theorem vchains_anyG (F : Nat) (h4 : 4 ≤ F) (h6 : F ≤ 6) (g n : Nat) (l : List Cel) (hl : l.length = n) (H : Nat) (kk : Nat) (nd : Nat → Nat → Nat) (mm : Nat → Nat) (lo : Nat → Nat → ByteArray) (pg : Nat → Nat → Pg) (T : TrG F l H kk nd mm lo pg) (h0 : 0 < H) (ks : List ByteArray) (r : Nat → Nat) (off : Nat → Nat) (hlv : LeavesG ks r (mm 0) (lo 0) (pg 0) off) (hk40 : ks.length ≤ 100) (hr : Rest F ks.length l) (hrf : RefsG r ks.length) (w : World) (hv : Blk w g 54 (flat3 l)) :
  Calls Tryz.prog 79 #[.agg #[.int .i64 1, .int .i64 2, .int .i64 100, .int .i64 100, .int .i64 200, .int .i64 (F : Int), .int .u64 1000, .slice (some ⟨g, 0, none⟩) n n]] w fun e w' => e = .returned (.bool true) ∧ Kept (fun _ => False) w w' := by
 have HRE0 := Hd hr
 have HRB0 := Hd hrf
 clear hr hrf
 have HV0 := Hd hv
 clear hv
 go_enter Tryz.func79, Tryz.ntmps79
 go_wp2_with fail
 have hal := (Kept.refl (fun _ => False) w).alloc (.cells #[.int .i64 1, .int .i64 2, .int .i64 100, .int .i64 100, .int .i64 200, .int .i64 (F : Int), .int .u64 1000, .slice (some ⟨g, 0, none⟩) n n] 63)
 have HB := Hd (Blk.new w [.int .i64 1, .int .i64 2, .int .i64 100, .int .i64 100, .int .i64 200, .int .i64 (F : Int), .int .u64 1000, .slice (some ⟨g, 0, none⟩) n n] 63)
 have HV := Hd (hal.blk HV0.out (fun h => h))
 have HK := Hd hal
 clear hal
 generalize w.alloc (.cells #[.int .i64 1, .int .i64 2, .int .i64 100, .int .i64 100, .int .i64 200, .int .i64 (F : Int), .int .u64 1000, .slice (some ⟨g, 0, none⟩) n n] 63) = W at *
 generalize hr0 : w.heap.size = r0 at *
 have HR0 := Hd hr0
 clear hr0
 have hb9 := HB.out
 obtain ⟨x0, x1, x2, x3, x4, x5, x6, x7⟩ := hb9.c8
 clear hb9
 refine (vrefs_anyG F h4 h6 g n l hl H kk nd mm lo pg T h0 ks r off hlv hk40 _ HV.out).mono ?_; rintro e Z ⟨AR, cR, rfl, hWr, hK9⟩
 obtain ⟨nk, hnk⟩ : ∃ nk, ks.length = nk := ⟨_, rfl⟩
 rw [hnk] at hWr hk40
 rw [hnk]
 have HRE := Hd (show Rest F nk l from by rw [← hnk]; exact HRE0.out)
 have HRB := Hd (show RefsG r nk from by rw [← hnk]; exact HRB0.out)
 have HC5 := Hd (show cellAt l 5 = ((nk : Int), (⟨#[]⟩ : ByteArray), (0 : Int)) from HRE.out.2)
 have HBz := Hd (hK9.blk HB.out (fun h => h))
 have HVz := Hd (hK9.blk HV.out (fun h => h))
 have HKz := Hd (HK.out.trans hK9 (fun _ _ h => h))
 have HWR := Hd hWr
 clear hWr hK9 HB HV HK hnk HRE0 HRB0 x0 x1 x2 x3 x4 x5 x6 x7
 go_wp2_with fail
 go_loopw [4] (fun iv wr => ∃ i : Nat, i ≤ nk ∧ iv = .int .i64 (i : Int) ∧ Kept (fun _ => False) Z wr) (fun iv _ => nk - (intOf iv).toNat)
 case atStart => exact ⟨0, Nat.zero_le _, rfl, Kept.refl _ _⟩
 case round =>
  rename World => V3
  obtain ⟨i, hi, rfl, hKr⟩ := hrel
  have HKr := Hd hKr
  have HBr := Hd (hKr.blk HBz.out (fun h => h))
  have HVr := Hd (hKr.blk HVz.out (fun h => h))
  clear hKr
  by_cases hin : i < nk
  ·have hinI : (i : Int) < (nk : Int) := by omega
   obtain ⟨gR, oR, rfl, hgR, -, hcR⟩ := HWR.out (by rw [rfsG_len]; omega)
   obtain ⟨i1, hi1⟩ : ∃ i1, r i = i1 := ⟨_, rfl⟩
   have hi1b : 1 ≤ i1 ∧ i1 ≤ nk := by rw [← hi1]; exact HRB.out.1 i hin
   have hci := hcR i i1 (by rw [← hi1]; exact rfsG_at hin)
   have HCR := Hd hcR
   have HC0 := Hd ((HKr.out.cell (p := ⟨gR, oR + i, none⟩) hgR (fun h => h)).trans hci)
   have hgRr : gR < V3.heap.size := Nat.lt_of_lt_of_le hgR HKr.out.size
   obtain ⟨a, ha⟩ : ∃ a, chainAt 100 (firstChain 1 2 100 (F : Int)) (i1 : Int) = a := ⟨_, rfl⟩
   have ha0 : ¬ a < 0 := by rw [← ha]; unfold chainAt firstChain firstNode; rw [if_pos (by omega)]; omega
   have HCH := Hd (show ∀ W, Calls Tryz.prog 125 #[.agg #[.int .i64 1, .int .i64 2, .int .i64 100, .int .i64 100, .int .i64 200, .int .i64 (F : Int), .int .u64 1000], .int .u64 (i1 : Int)] W fun e w' => e = .returned (.int .i64 a) ∧ Kept (fun _ => False) W w' from fun W => by
    have h := refChain_any 1 2 100 100 200 (F : Int) 1000 (i1 : Int) (limF h4 h6) (by omega) W
    rw [ha] at h; exact h)
   have f5 := field0 (nk : Int) 0 ⟨#[]⟩
   have hik : ¬ (nk : Int) < (i1 : Int) := by omega
   clear hcR hci ha
   go_upto_region 5 with fail
   refine qregion (fun w' => Kept (fun _ => False) V3 w') (by kernel_rfl) (by kernel_rfl) (Kept.refl _ _).drew ?_
   refine tkQ 16 ?_ (fun wq hSw => ?_) ?_
   rotate_left
   ·(go_simp; try with_reducible rfl)
   try simp only [aP,aA,aZ,aS]
   refine tkQ 17 ?_ (fun wq hSw => ?_) ?_
   rotate_left
   ·(have hb9 := hSw.blk HBr.out (fun h => h); obtain ⟨x0, x1, x2, x3, x4, x5, x6, x7⟩ := hb9.c8; clear hb9; have c0 := (hSw.cell (p := ⟨gR, oR + i, none⟩) hgRr (fun h => h)).trans HC0.out; go_simp; try with_reducible rfl)
   try simp only [aP,aA,aZ,aS]
   refine tkQ 18 ?_ (fun wq hSw => ?_) ?_
   rotate_left
   ·(go_simp; try with_reducible rfl)
   try simp only [aP,aA,aZ,aS]
   refine tkQ 19 ?_ (fun wq hSw => ?_) ?_
   rotate_left
   ·(go_simp; try with_reducible rfl)
   try simp only [aP,aA,aZ,aS]
   refine tkQ 20 ?_ (fun wq hSw => ?_) ?_
   rotate_left
   ·(go_simp; try with_reducible rfl)
   try simp only [aP,aA,aZ,aS]
   refine tkQ 21 ?_ (fun wq hSw => ?_) ?_
   rotate_left
   ·(have hb9 := hSw.blk HBr.out (fun h => h); obtain ⟨x0, x1, x2, x3, x4, x5, x6, x7⟩ := hb9.c8; clear hb9; have c0 := (hSw.cell (p := ⟨gR, oR + i, none⟩) hgRr (fun h => h)).trans HC0.out; go_simp; try with_reducible rfl)
   try simp only [aP,aA,aZ,aS]
   refine qcall (o := ⟨some 22, _, _, _, _, _⟩) (v := .int .i64 a) (by rfl) (fun wq hSw => ?_) (fun wq hSw => Calls.mono (HCH.out _) ?_) ?_
   ·(go_simp; try with_reducible rfl)
   ·rintro e w9 ⟨rfl, hk⟩; exact ⟨rfl, hSw.trans hk (fun _ _ h => h)⟩
   try simp only [aP,aA,aZ,aS]
   refine tkQ 23 (.bool false) (fun wq hSw => ?_) ?_
   ·(go_simp; try first | (with_reducible rfl) | (simp; omega) | (intros; omega) | simp [*])
   try simp only [aP,aA,aZ,aS]
   refine tkQ 24 (.bool false) (fun wq hSw => ?_) ?_
   ·(go_simp; try first | (with_reducible rfl) | (simp; omega) | (intros; omega) | simp [*])
   try simp only [aP,aA,aZ,aS]
   refine tkQ 25 ?_ (fun wq hSw => ?_) ?_
   rotate_left
   ·(go_simp; try with_reducible rfl)
   try simp only [aP,aA,aZ,aS]
   refine tkQ 26 ?_ (fun wq hSw => ?_) ?_
   rotate_left
   ·(go_simp; try with_reducible rfl)
   try simp only [aP,aA,aZ,aS]
   refine tkQ 27 ?_ (fun wq hSw => ?_) ?_
   rotate_left
   ·(go_simp; try with_reducible rfl)
   try simp only [aP,aA,aZ,aS]
   refine tkQ 28 ?_ (fun wq hSw => ?_) ?_
   rotate_left
   ·(have hb9 := hSw.blk HBr.out (fun h => h); obtain ⟨x0, x1, x2, x3, x4, x5, x6, x7⟩ := hb9.c8; clear hb9; have c0 := (hSw.cell (p := ⟨gR, oR + i, none⟩) hgRr (fun h => h)).trans HC0.out; go_simp; try with_reducible rfl)
   try simp only [aP,aA,aZ,aS]
   refine tkQ 29 ?_ (fun wq hSw => ?_) ?_
   rotate_left
   ·(have hb9 := hSw.blk HBr.out (fun h => h); obtain ⟨x0, x1, x2, x3, x4, x5, x6, x7⟩ := hb9.c8; clear hb9; have c0 := (hSw.cell (p := ⟨gR, oR + i, none⟩) hgRr (fun h => h)).trans HC0.out; go_simp; try with_reducible rfl)
   try simp only [aP,aA,aZ,aS]
   refine qcall (o := ⟨some 30, _, _, _, _, _⟩) (v := .agg #[.int .u64 (nk : Int), .string ⟨#[]⟩, .int .u64 0]) (by rfl) (fun wq hSw => ?_) (fun wq hSw => Calls.mono (vat_any F h4 h6 g n l hl 5 (nk : Int) 0 ⟨#[]⟩ _ (hSw.blk HVr.out (fun h => h)) HC5.out) ?_) ?_
   ·(go_simp; try with_reducible rfl)
   ·rintro e w9 ⟨rfl, hk⟩; exact ⟨rfl, hSw.trans hk (fun _ _ h => h)⟩
   try simp only [aP,aA,aZ,aS]
   refine tkQ 31 ?_ (fun wq hSw => ?_) ?_
   rotate_left
   ·(go_simp; try with_reducible rfl)
   try simp only [aP,aA,aZ,aS]
   refine tkQ 32 (.bool false) (fun wq hSw => ?_) ?_
   ·(go_simp; try first | (with_reducible rfl) | (simp; omega) | (intros; omega) | simp [*])
   try simp only [aP,aA,aZ,aS]
   refine tkQ 33 (.bool false) (fun wq hSw => ?_) ?_
   ·(go_simp; try first | (with_reducible rfl) | (simp; omega) | (intros; omega) | simp [*])
   try simp only [aP,aA,aZ,aS]
   refine wpQuiet_nil ?_
   intro wz hHeld
   have HK3 := Hd (HKr.out.trans hHeld (fun _ _ h => h))
   clear hHeld HBr HVr HC0 f5 HCH
   rename World => V4
   go_wp2_with fail
   go_loopw [5] (fun jv wr => ∃ j : Nat, j ≤ i ∧ jv = .int .i64 (j : Int) ∧ Kept (fun _ => False) V4 wr) (fun jv _ => i - (intOf jv).toNat)
   case atStart => exact ⟨0, Nat.zero_le _, rfl, Kept.refl _ _⟩
   case round =>
    rename World => V5
    obtain ⟨j, hj, rfl, hK5⟩ := hrel
    have HK5 := Hd hK5
    have HK6 := Hd (HK3.out.trans hK5 (fun _ _ h => h))
    have HB5 := Hd (HK6.out.blk HBz.out (fun h => h))
    have HV5 := Hd (HK6.out.blk HVz.out (fun h => h))
    have hgR5 : gR < V5.heap.size := Nat.lt_of_lt_of_le hgR HK6.out.size
    have HD1 := Hd ((HK6.out.cell (p := ⟨gR, oR + i, none⟩) hgR (fun h => h)).trans (HCR.out i i1 (by rw [← hi1]; exact rfsG_at hin)))
    clear hK5
    by_cases hji : j < i
    ·have hjiI : (j : Int) < (i : Int) := by omega
     have hjn : (j : Int) < (nk : Int) := by omega
     obtain ⟨j1, hj1⟩ : ∃ j1, r j = j1 := ⟨_, rfl⟩
     have HD0 := Hd ((HK6.out.cell (p := ⟨gR, oR + j, none⟩) hgR (fun h => h)).trans (HCR.out j j1 (by rw [← hj1]; exact rfsG_at (by omega))))
     have hne : ((j1 : Int) == (i1 : Int)) = false := beq_false_of_ne (fun e => by have e2 : j1 = i1 := (by omega); have := HRB.out.2 j i (by omega) hin (by rw [hj1, hi1]; exact e2); omega)
     have HJ1 := Hd hj1
     clear hj1
     go_upto_region 10 with fail
     refine qregion (fun w' => Kept (fun _ => False) V5 w') (by kernel_rfl) (by kernel_rfl) (Kept.refl _ _).drew ?_
     refine tkQ 39 ?_ (fun wq hSw => ?_) ?_
     rotate_left
     ·(go_simp; try with_reducible rfl)
     try simp only [aP,aA,aZ,aS]
     refine tkQ 40 ?_ (fun wq hSw => ?_) ?_
     rotate_left
     ·(go_simp; try with_reducible rfl)
     try simp only [aP,aA,aZ,aS]
     refine tkQ 41 ?_ (fun wq hSw => ?_) ?_
     rotate_left
     ·(go_simp; try with_reducible rfl)
     try simp only [aP,aA,aZ,aS]
     refine tkQ 42 ?_ (fun wq hSw => ?_) ?_
     rotate_left
     ·(have c0 := (hSw.cell (p := ⟨gR, oR + j, none⟩) hgR5 (fun h => h)).trans HD0.out; have c1 := (hSw.cell (p := ⟨gR, oR + i, none⟩) hgR5 (fun h => h)).trans HD1.out; go_simp; try with_reducible rfl)
     try simp only [aP,aA,aZ,aS]
     refine tkQ 43 ?_ (fun wq hSw => ?_) ?_
     rotate_left
     ·(go_simp; try with_reducible rfl)
     try simp only [aP,aA,aZ,aS]
     refine tkQ 44 ?_ (fun wq hSw => ?_) ?_
     rotate_left
     ·(go_simp; try with_reducible rfl)
     try simp only [aP,aA,aZ,aS]
     refine tkQ 45 ?_ (fun wq hSw => ?_) ?_
     rotate_left
     ·(go_simp; try with_reducible rfl)
     try simp only [aP,aA,aZ,aS]
     refine tkQ 46 ?_ (fun wq hSw => ?_) ?_
     rotate_left
     ·(have c0 := (hSw.cell (p := ⟨gR, oR + j, none⟩) hgR5 (fun h => h)).trans HD0.out; have c1 := (hSw.cell (p := ⟨gR, oR + i, none⟩) hgR5 (fun h => h)).trans HD1.out; go_simp; try with_reducible rfl)
     try simp only [aP,aA,aZ,aS]
     refine tkQ 47 (.bool false) (fun wq hSw => ?_) ?_
     ·(go_simp; try first | (with_reducible rfl) | (simp; omega) | (intros; omega) | simp [*])
     try simp only [aP,aA,aZ,aS]
     refine wpQuiet_nil ?_
     intro wz hHeld
     replace HK5 := Hd (HK5.out.trans hHeld (fun _ _ h => h))
     clear hHeld
     go_wp2
     go_roundw
     case rel => exact ⟨j + 1, by omega, by go_num, HK5.out⟩
     case measure => simp [intOf]; omega
    ·have hjiI : ¬ (j : Int) < (i : Int) := by omega
     go_upto_region 12 with fail
     refine qregion (fun w' => Kept (fun _ => False) V5 w') (by kernel_rfl) (by kernel_rfl) (Kept.refl _ _).drew ?_
     refine tkQ 48 ?_ (fun wq hSw => ?_) ?_
     rotate_left
     ·(have hb9 := hSw.blk HB5.out (fun h => h); obtain ⟨x0, x1, x2, x3, x4, x5, x6, x7⟩ := hb9.c8; clear hb9; have c1 := (hSw.cell (p := ⟨gR, oR + i, none⟩) hgR5 (fun h => h)).trans HD1.out; go_simp; try with_reducible rfl)
     try simp only [aP,aA,aZ,aS]
     refine tkQ 49 ?_ (fun wq hSw => ?_) ?_
     rotate_left
     ·(go_simp; try with_reducible rfl)
     try simp only [aP,aA,aZ,aS]
     refine tkQ 50 ?_ (fun wq hSw => ?_) ?_
     rotate_left
     ·(go_simp; try with_reducible rfl)
     try simp only [aP,aA,aZ,aS]
     refine tkQ 51 ?_ (fun wq hSw => ?_) ?_
     rotate_left
     ·(go_simp; try with_reducible rfl)
     try simp only [aP,aA,aZ,aS]
     refine tkQ 52 ?_ (fun wq hSw => ?_) ?_
     rotate_left
     ·(have hb9 := hSw.blk HB5.out (fun h => h); obtain ⟨x0, x1, x2, x3, x4, x5, x6, x7⟩ := hb9.c8; clear hb9; have c1 := (hSw.cell (p := ⟨gR, oR + i, none⟩) hgR5 (fun h => h)).trans HD1.out; go_simp; try with_reducible rfl)
     try simp only [aP,aA,aZ,aS]
     refine qcall (o := ⟨some 53, _, _, _, _, _⟩) (v := .slice none 0 0) (by rfl) (fun wq hSw => ?_) (fun wq hSw => Calls.mono (vchain_zero F h4 h6 g n l hl nk i1 HRE.out (by omega) (by omega) _ (hSw.blk HV5.out (fun h => h))) ?_) ?_
     ·(go_simp; try with_reducible rfl)
     ·rintro e w9 ⟨rfl, hk⟩; exact ⟨rfl, hSw.trans hk (fun _ _ h => h)⟩
     try simp only [aP,aA,aZ,aS]
     refine tkQ 6 ?_ (fun wq hSw => ?_) ?_
     rotate_left
     ·(go_simp; try with_reducible rfl)
     try simp only [aP,aA,aZ,aS]
     refine wpQuiet_nil ?_
     intro wz hHeld
     have HK7 := Hd (HK6.out.trans hHeld (fun _ _ h => h))
     clear hHeld
     rename World => V6
     go_wp2_with fail
     refine (refCheck9_nil _).mono ?_; rintro e w9 ⟨rfl, rfl⟩
     go_wp2_with fail
     go_loopw [7] (fun kv wr => kv = .int .i64 0 ∧ wr = V6) (fun _ _ => 0)
     case atStart => exact ⟨rfl, rfl⟩
     case round =>
      obtain ⟨rfl, rfl⟩ := hrel
      go_wp2
      go_roundw
      case rel => exact ⟨i + 1, by omega, by go_num, HK7.out⟩
      case measure => simp [intOf]; omega
  ·have hinI : ¬ (i : Int) < (nk : Int) := by omega
   go_wp2
   go_ret
   refine ⟨rfl, ?_⟩
   have := HKz.out.trans HKr.out (fun _ _ h => h)
   exact this

end
end Go.Proofs.YtjnodgebpklaoaaGreat
