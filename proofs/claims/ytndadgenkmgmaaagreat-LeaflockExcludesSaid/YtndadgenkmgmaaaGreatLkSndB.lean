/-
  What chains of a view answers for a planted tree. Condition: the kit's small configurations.
-/
import Derived.Test.YtndadgenkmgmaaaGreatLkSndA
namespace Go.Proofs.YtndadgenkmgmaaaGreat
open Go.RowKit Go.Deep Plain
set_option linter.unusedVariables false

set_option maxRecDepth 100000 in
set_option maxHeartbeats 8000000 in
theorem vchains_any (F : Nat) (h4 : 4 ≤ F) (h6 : F ≤ 6) (g n : Nat) (l : List Cel) (hl : l.length = n) (H : Nat) (st mm : Nat → Nat) (lo : Nat → Nat → ByteArray) (pg : Nat → Nat → Pg) (T : Tr F l H st mm lo pg) (h0 : 0 < H) (ks : List ByteArray) (off : Nat → Nat) (hlv : Leaves ks (mm 0) (lo 0) (pg 0) off) (hk40 : ks.length ≤ 100) (hr : Rest F ks.length l) (w : World) (hv : Blk w g 56 (flat3 l)) :
    Calls Tryz.prog 71 #[.agg #[.int .i64 1, .int .i64 2, .int .i64 100, .int .i64 100, .int .i64 200, .int .i64 (F : Int), .int .u64 1000, .slice (some ⟨g, 0, none⟩) n n]] w fun e w' => e = .returned (.bool true) ∧ Kept (fun _ => False) w w' := by
  have HRE0 := Lib.hid hr
  clear hr
  have HV0 := Lib.hid hv
  clear hv
  go_enter Tryz.func71, Tryz.ntmps71
  go_wp2_with fail
  have hal := (Kept.refl (fun _ => False) w).alloc (.cells #[.int .i64 1, .int .i64 2, .int .i64 100, .int .i64 100, .int .i64 200, .int .i64 (F : Int), .int .u64 1000, .slice (some ⟨g, 0, none⟩) n n] 38)
  have HB := Lib.hid (Blk.new w [.int .i64 1, .int .i64 2, .int .i64 100, .int .i64 100, .int .i64 200, .int .i64 (F : Int), .int .u64 1000, .slice (some ⟨g, 0, none⟩) n n] 38)
  have HV := Lib.hid (hal.blk HV0.out (fun h => h))
  have HK := Lib.hid hal
  clear hal
  generalize w.alloc (.cells #[.int .i64 1, .int .i64 2, .int .i64 100, .int .i64 100, .int .i64 200, .int .i64 (F : Int), .int .u64 1000, .slice (some ⟨g, 0, none⟩) n n] 38) = W at *
  generalize hr0 : w.heap.size = r0 at *
  have HR0 := Lib.hid hr0
  clear hr0
  have hb9 := HB.out
  have x0 := hb9.cell (i := 0) rfl
  have x1 := hb9.cell (i := 1) rfl
  have x2 := hb9.cell (i := 2) rfl
  have x3 := hb9.cell (i := 3) rfl
  have x4 := hb9.cell (i := 4) rfl
  have x5 := hb9.cell (i := 5) rfl
  have x6 := hb9.cell (i := 6) rfl
  have x7 := hb9.cell (i := 7) rfl
  clear hb9
  refine (vrefs_any F h4 h6 g n l hl H st mm lo pg T h0 ks off hlv hk40 _ HV.out).mono ?_; rintro e Z ⟨AR, cR, rfl, hWr, hK9⟩
  obtain ⟨nk, hnk⟩ : ∃ nk, ks.length = nk := ⟨_, rfl⟩
  rw [hnk] at hWr hk40
  rw [hnk]
  have HRE := Lib.hid (show Rest F nk l from by rw [← hnk]; exact HRE0.out)
  have HC5 := Lib.hid (show cellAt l 5 = ((nk : Int), (⟨#[]⟩ : ByteArray), (0 : Int)) from HRE.out.2)
  have HBz := Lib.hid (hK9.blk HB.out (fun h => h))
  have HVz := Lib.hid (hK9.blk HV.out (fun h => h))
  have HKz := Lib.hid (HK.out.trans hK9 (fun _ _ h => h))
  have HWR := Lib.hid hWr
  clear hWr hK9 HB HV HK hnk HRE0 x0 x1 x2 x3 x4 x5 x6 x7
  go_wp2_with fail
  go_loopw [4] (fun iv wr => ∃ i : Nat, i ≤ nk ∧ iv = .int .i64 (i : Int) ∧ Kept (fun _ => False) Z wr) (fun iv _ => nk - (intOf iv).toNat)
  case atStart => exact ⟨0, Nat.zero_le _, rfl, Kept.refl _ _⟩
  case round =>
    rename World => V3
    obtain ⟨i, hi, rfl, hKr⟩ := hrel
    have HKr := Lib.hid hKr
    have HBr := Lib.hid (hKr.blk HBz.out (fun h => h))
    have HVr := Lib.hid (hKr.blk HVz.out (fun h => h))
    clear hKr
    by_cases hin : i < nk
    · have hinI : (i : Int) < (nk : Int) := by omega
      obtain ⟨gR, oR, rfl, hgR, -, hcR⟩ := HWR.out (by rw [rfs_len]; omega)
      obtain ⟨i1, hi1⟩ : ∃ i1, i + 1 = i1 := ⟨_, rfl⟩
      have hci := hcR i i1 (by rw [← hi1]; exact rfs_at hin)
      have HCR := Lib.hid hcR
      have HC0 := Lib.hid ((HKr.out.cell (p := ⟨gR, oR + i, none⟩) hgR (fun h => h)).trans hci)
      have hgRr : gR < V3.heap.size := Nat.lt_of_lt_of_le hgR HKr.out.size
      obtain ⟨a, ha⟩ : ∃ a, chainAt 100 (firstChain 1 2 100 (F : Int)) (i1 : Int) = a := ⟨_, rfl⟩
      have ha0 : ¬ a < 0 := by rw [← ha]; unfold chainAt firstChain firstNode; rw [if_pos (by omega)]; omega
      have HCH := Lib.hid (show ∀ W, Calls Tryz.prog 99 #[.agg #[.int .i64 1, .int .i64 2, .int .i64 100, .int .i64 100, .int .i64 200, .int .i64 (F : Int), .int .u64 1000], .int .u64 (i1 : Int)] W fun e w' => e = .returned (.int .i64 a) ∧ Kept (fun _ => False) W w' from fun W => by
        have h := refChain_any 1 2 100 100 200 (F : Int) 1000 (i1 : Int) (limF h4 h6) (by omega) W
        rw [ha] at h; exact h)
      have f5 := field0 (nk : Int) 0 ⟨#[]⟩
      have hik : ¬ (nk : Int) < (i1 : Int) := by omega
      clear hcR hci ha
      go_upto_region 5 with fail
      refine qregion (fun w' => Kept (fun _ => False) V3 w') (by kernel_rfl) (by kernel_rfl) (Kept.refl _ _).drew ?_
      refine qstep (o := ⟨some 16, _, _, _, _, _⟩) (v := ?_) (by rfl) (fun wq hSw => ?_) ?_
      rotate_left
      · (go_simp; try with_reducible rfl)
      try simp only [Act.put, List.setIfInBounds_toArray, List.set_cons_zero, List.set_cons_succ]
      refine qstep (o := ⟨some 17, _, _, _, _, _⟩) (v := ?_) (by rfl) (fun wq hSw => ?_) ?_
      rotate_left
      · (have hb9 := hSw.blk HBr.out (fun h => h); have x0 := hb9.cell (i := 0) rfl; have x1 := hb9.cell (i := 1) rfl; have x2 := hb9.cell (i := 2) rfl; have x3 := hb9.cell (i := 3) rfl; have x4 := hb9.cell (i := 4) rfl; have x5 := hb9.cell (i := 5) rfl; have x6 := hb9.cell (i := 6) rfl; have x7 := hb9.cell (i := 7) rfl; clear hb9; have c0 := (hSw.cell (p := ⟨gR, oR + i, none⟩) hgRr (fun h => h)).trans HC0.out; go_simp; try with_reducible rfl)
      try simp only [Act.put, List.setIfInBounds_toArray, List.set_cons_zero, List.set_cons_succ]
      refine qstep (o := ⟨some 18, _, _, _, _, _⟩) (v := ?_) (by rfl) (fun wq hSw => ?_) ?_
      rotate_left
      · (go_simp; try with_reducible rfl)
      try simp only [Act.put, List.setIfInBounds_toArray, List.set_cons_zero, List.set_cons_succ]
      refine qstep (o := ⟨some 19, _, _, _, _, _⟩) (v := ?_) (by rfl) (fun wq hSw => ?_) ?_
      rotate_left
      · (go_simp; try with_reducible rfl)
      try simp only [Act.put, List.setIfInBounds_toArray, List.set_cons_zero, List.set_cons_succ]
      refine qstep (o := ⟨some 20, _, _, _, _, _⟩) (v := ?_) (by rfl) (fun wq hSw => ?_) ?_
      rotate_left
      · (go_simp; try with_reducible rfl)
      try simp only [Act.put, List.setIfInBounds_toArray, List.set_cons_zero, List.set_cons_succ]
      refine qstep (o := ⟨some 21, _, _, _, _, _⟩) (v := ?_) (by rfl) (fun wq hSw => ?_) ?_
      rotate_left
      · (have hb9 := hSw.blk HBr.out (fun h => h); have x0 := hb9.cell (i := 0) rfl; have x1 := hb9.cell (i := 1) rfl; have x2 := hb9.cell (i := 2) rfl; have x3 := hb9.cell (i := 3) rfl; have x4 := hb9.cell (i := 4) rfl; have x5 := hb9.cell (i := 5) rfl; have x6 := hb9.cell (i := 6) rfl; have x7 := hb9.cell (i := 7) rfl; clear hb9; have c0 := (hSw.cell (p := ⟨gR, oR + i, none⟩) hgRr (fun h => h)).trans HC0.out; go_simp; try with_reducible rfl)
      try simp only [Act.put, List.setIfInBounds_toArray, List.set_cons_zero, List.set_cons_succ]
      refine qcall (o := ⟨some 22, _, _, _, _, _⟩) (v := .int .i64 a) (by rfl) (fun wq hSw => ?_) (fun wq hSw => Calls.mono (HCH.out _) ?_) ?_
      · (go_simp; try with_reducible rfl)
      · rintro e w9 ⟨rfl, hk⟩; exact ⟨rfl, hSw.trans hk (fun _ _ h => h)⟩
      try simp only [Act.put, List.setIfInBounds_toArray, List.set_cons_zero, List.set_cons_succ]
      refine qstep (o := ⟨some 23, _, _, _, _, _⟩) (v := .bool false) (by rfl) (fun wq hSw => ?_) ?_
      · (go_simp; try first | (with_reducible rfl) | (simp; omega) | (intros; omega) | simp [*])
      try simp only [Act.put, List.setIfInBounds_toArray, List.set_cons_zero, List.set_cons_succ]
      refine qstep (o := ⟨some 24, _, _, _, _, _⟩) (v := .bool false) (by rfl) (fun wq hSw => ?_) ?_
      · (go_simp; try first | (with_reducible rfl) | (simp; omega) | (intros; omega) | simp [*])
      try simp only [Act.put, List.setIfInBounds_toArray, List.set_cons_zero, List.set_cons_succ]
      refine qstep (o := ⟨some 25, _, _, _, _, _⟩) (v := ?_) (by rfl) (fun wq hSw => ?_) ?_
      rotate_left
      · (go_simp; try with_reducible rfl)
      try simp only [Act.put, List.setIfInBounds_toArray, List.set_cons_zero, List.set_cons_succ]
      refine qstep (o := ⟨some 26, _, _, _, _, _⟩) (v := ?_) (by rfl) (fun wq hSw => ?_) ?_
      rotate_left
      · (go_simp; try with_reducible rfl)
      try simp only [Act.put, List.setIfInBounds_toArray, List.set_cons_zero, List.set_cons_succ]
      refine qstep (o := ⟨some 27, _, _, _, _, _⟩) (v := ?_) (by rfl) (fun wq hSw => ?_) ?_
      rotate_left
      · (go_simp; try with_reducible rfl)
      try simp only [Act.put, List.setIfInBounds_toArray, List.set_cons_zero, List.set_cons_succ]
      refine qstep (o := ⟨some 28, _, _, _, _, _⟩) (v := ?_) (by rfl) (fun wq hSw => ?_) ?_
      rotate_left
      · (have hb9 := hSw.blk HBr.out (fun h => h); have x0 := hb9.cell (i := 0) rfl; have x1 := hb9.cell (i := 1) rfl; have x2 := hb9.cell (i := 2) rfl; have x3 := hb9.cell (i := 3) rfl; have x4 := hb9.cell (i := 4) rfl; have x5 := hb9.cell (i := 5) rfl; have x6 := hb9.cell (i := 6) rfl; have x7 := hb9.cell (i := 7) rfl; clear hb9; have c0 := (hSw.cell (p := ⟨gR, oR + i, none⟩) hgRr (fun h => h)).trans HC0.out; go_simp; try with_reducible rfl)
      try simp only [Act.put, List.setIfInBounds_toArray, List.set_cons_zero, List.set_cons_succ]
      refine qstep (o := ⟨some 29, _, _, _, _, _⟩) (v := ?_) (by rfl) (fun wq hSw => ?_) ?_
      rotate_left
      · (have hb9 := hSw.blk HBr.out (fun h => h); have x0 := hb9.cell (i := 0) rfl; have x1 := hb9.cell (i := 1) rfl; have x2 := hb9.cell (i := 2) rfl; have x3 := hb9.cell (i := 3) rfl; have x4 := hb9.cell (i := 4) rfl; have x5 := hb9.cell (i := 5) rfl; have x6 := hb9.cell (i := 6) rfl; have x7 := hb9.cell (i := 7) rfl; clear hb9; have c0 := (hSw.cell (p := ⟨gR, oR + i, none⟩) hgRr (fun h => h)).trans HC0.out; go_simp; try with_reducible rfl)
      try simp only [Act.put, List.setIfInBounds_toArray, List.set_cons_zero, List.set_cons_succ]
      refine qcall (o := ⟨some 30, _, _, _, _, _⟩) (v := .agg #[.int .u64 (nk : Int), .string ⟨#[]⟩, .int .u64 0]) (by rfl) (fun wq hSw => ?_) (fun wq hSw => Calls.mono (vat_any F h4 h6 g n l hl 5 (nk : Int) 0 ⟨#[]⟩ _ (hSw.blk HVr.out (fun h => h)) HC5.out) ?_) ?_
      · (go_simp; try with_reducible rfl)
      · rintro e w9 ⟨rfl, hk⟩; exact ⟨rfl, hSw.trans hk (fun _ _ h => h)⟩
      try simp only [Act.put, List.setIfInBounds_toArray, List.set_cons_zero, List.set_cons_succ]
      refine qstep (o := ⟨some 31, _, _, _, _, _⟩) (v := ?_) (by rfl) (fun wq hSw => ?_) ?_
      rotate_left
      · (go_simp; try with_reducible rfl)
      try simp only [Act.put, List.setIfInBounds_toArray, List.set_cons_zero, List.set_cons_succ]
      refine qstep (o := ⟨some 32, _, _, _, _, _⟩) (v := .bool false) (by rfl) (fun wq hSw => ?_) ?_
      · (go_simp; try first | (with_reducible rfl) | (simp; omega) | (intros; omega) | simp [*])
      try simp only [Act.put, List.setIfInBounds_toArray, List.set_cons_zero, List.set_cons_succ]
      refine qstep (o := ⟨some 33, _, _, _, _, _⟩) (v := .bool false) (by rfl) (fun wq hSw => ?_) ?_
      · (go_simp; try first | (with_reducible rfl) | (simp; omega) | (intros; omega) | simp [*])
      try simp only [Act.put, List.setIfInBounds_toArray, List.set_cons_zero, List.set_cons_succ]
      refine wpQuiet_nil ?_
      intro wz hHeld
      have HK3 := Lib.hid (HKr.out.trans hHeld (fun _ _ h => h))
      clear hHeld HBr HVr HC0 f5 HCH
      rename World => V4
      go_wp2_with fail
      go_loopw [5] (fun jv wr => ∃ j : Nat, j ≤ i ∧ jv = .int .i64 (j : Int) ∧ Kept (fun _ => False) V4 wr) (fun jv _ => i - (intOf jv).toNat)
      case atStart => exact ⟨0, Nat.zero_le _, rfl, Kept.refl _ _⟩
      case round =>
        rename World => V5
        obtain ⟨j, hj, rfl, hK5⟩ := hrel
        have HK5 := Lib.hid hK5
        have HK6 := Lib.hid (HK3.out.trans hK5 (fun _ _ h => h))
        have HB5 := Lib.hid (HK6.out.blk HBz.out (fun h => h))
        have HV5 := Lib.hid (HK6.out.blk HVz.out (fun h => h))
        have hgR5 : gR < V5.heap.size := Nat.lt_of_lt_of_le hgR HK6.out.size
        have HD1 := Lib.hid ((HK6.out.cell (p := ⟨gR, oR + i, none⟩) hgR (fun h => h)).trans (HCR.out i i1 (by rw [← hi1]; exact rfs_at hin)))
        clear hK5
        by_cases hji : j < i
        · have hjiI : (j : Int) < (i : Int) := by omega
          have hjn : (j : Int) < (nk : Int) := by omega
          obtain ⟨j1, hj1⟩ : ∃ j1, j + 1 = j1 := ⟨_, rfl⟩
          have HD0 := Lib.hid ((HK6.out.cell (p := ⟨gR, oR + j, none⟩) hgR (fun h => h)).trans (HCR.out j j1 (by rw [← hj1]; exact rfs_at (by omega))))
          have hne : ((j1 : Int) == (i1 : Int)) = false := beq_false_of_ne (by omega)
          have HJ1 := Lib.hid hj1
          clear hj1
          go_upto_region 10 with fail
          refine qregion (fun w' => Kept (fun _ => False) V5 w') (by kernel_rfl) (by kernel_rfl) (Kept.refl _ _).drew ?_
          refine qstep (o := ⟨some 39, _, _, _, _, _⟩) (v := ?_) (by rfl) (fun wq hSw => ?_) ?_
          rotate_left
          · (go_simp; try with_reducible rfl)
          try simp only [Act.put, List.setIfInBounds_toArray, List.set_cons_zero, List.set_cons_succ]
          refine qstep (o := ⟨some 40, _, _, _, _, _⟩) (v := ?_) (by rfl) (fun wq hSw => ?_) ?_
          rotate_left
          · (go_simp; try with_reducible rfl)
          try simp only [Act.put, List.setIfInBounds_toArray, List.set_cons_zero, List.set_cons_succ]
          refine qstep (o := ⟨some 41, _, _, _, _, _⟩) (v := ?_) (by rfl) (fun wq hSw => ?_) ?_
          rotate_left
          · (go_simp; try with_reducible rfl)
          try simp only [Act.put, List.setIfInBounds_toArray, List.set_cons_zero, List.set_cons_succ]
          refine qstep (o := ⟨some 42, _, _, _, _, _⟩) (v := ?_) (by rfl) (fun wq hSw => ?_) ?_
          rotate_left
          · (have c0 := (hSw.cell (p := ⟨gR, oR + j, none⟩) hgR5 (fun h => h)).trans HD0.out; have c1 := (hSw.cell (p := ⟨gR, oR + i, none⟩) hgR5 (fun h => h)).trans HD1.out; go_simp; try with_reducible rfl)
          try simp only [Act.put, List.setIfInBounds_toArray, List.set_cons_zero, List.set_cons_succ]
          refine qstep (o := ⟨some 43, _, _, _, _, _⟩) (v := ?_) (by rfl) (fun wq hSw => ?_) ?_
          rotate_left
          · (go_simp; try with_reducible rfl)
          try simp only [Act.put, List.setIfInBounds_toArray, List.set_cons_zero, List.set_cons_succ]
          refine qstep (o := ⟨some 44, _, _, _, _, _⟩) (v := ?_) (by rfl) (fun wq hSw => ?_) ?_
          rotate_left
          · (go_simp; try with_reducible rfl)
          try simp only [Act.put, List.setIfInBounds_toArray, List.set_cons_zero, List.set_cons_succ]
          refine qstep (o := ⟨some 45, _, _, _, _, _⟩) (v := ?_) (by rfl) (fun wq hSw => ?_) ?_
          rotate_left
          · (go_simp; try with_reducible rfl)
          try simp only [Act.put, List.setIfInBounds_toArray, List.set_cons_zero, List.set_cons_succ]
          refine qstep (o := ⟨some 46, _, _, _, _, _⟩) (v := ?_) (by rfl) (fun wq hSw => ?_) ?_
          rotate_left
          · (have c0 := (hSw.cell (p := ⟨gR, oR + j, none⟩) hgR5 (fun h => h)).trans HD0.out; have c1 := (hSw.cell (p := ⟨gR, oR + i, none⟩) hgR5 (fun h => h)).trans HD1.out; go_simp; try with_reducible rfl)
          try simp only [Act.put, List.setIfInBounds_toArray, List.set_cons_zero, List.set_cons_succ]
          refine qstep (o := ⟨some 47, _, _, _, _, _⟩) (v := .bool false) (by rfl) (fun wq hSw => ?_) ?_
          · (go_simp; try first | (with_reducible rfl) | (simp; omega) | (intros; omega) | simp [*])
          try simp only [Act.put, List.setIfInBounds_toArray, List.set_cons_zero, List.set_cons_succ]
          refine wpQuiet_nil ?_
          intro wz hHeld
          replace HK5 := Lib.hid (HK5.out.trans hHeld (fun _ _ h => h))
          clear hHeld
          go_wp2
          go_roundw
          case rel => exact ⟨j + 1, by omega, by go_num, HK5.out⟩
          case measure => simp [intOf]; omega
        · have hjiI : ¬ (j : Int) < (i : Int) := by omega
          go_upto_region 12 with fail
          refine qregion (fun w' => Kept (fun _ => False) V5 w') (by kernel_rfl) (by kernel_rfl) (Kept.refl _ _).drew ?_
          refine qstep (o := ⟨some 48, _, _, _, _, _⟩) (v := ?_) (by rfl) (fun wq hSw => ?_) ?_
          rotate_left
          · (have hb9 := hSw.blk HB5.out (fun h => h); have x0 := hb9.cell (i := 0) rfl; have x1 := hb9.cell (i := 1) rfl; have x2 := hb9.cell (i := 2) rfl; have x3 := hb9.cell (i := 3) rfl; have x4 := hb9.cell (i := 4) rfl; have x5 := hb9.cell (i := 5) rfl; have x6 := hb9.cell (i := 6) rfl; have x7 := hb9.cell (i := 7) rfl; clear hb9; have c1 := (hSw.cell (p := ⟨gR, oR + i, none⟩) hgR5 (fun h => h)).trans HD1.out; go_simp; try with_reducible rfl)
          try simp only [Act.put, List.setIfInBounds_toArray, List.set_cons_zero, List.set_cons_succ]
          refine qstep (o := ⟨some 49, _, _, _, _, _⟩) (v := ?_) (by rfl) (fun wq hSw => ?_) ?_
          rotate_left
          · (go_simp; try with_reducible rfl)
          try simp only [Act.put, List.setIfInBounds_toArray, List.set_cons_zero, List.set_cons_succ]
          refine qstep (o := ⟨some 50, _, _, _, _, _⟩) (v := ?_) (by rfl) (fun wq hSw => ?_) ?_
          rotate_left
          · (go_simp; try with_reducible rfl)
          try simp only [Act.put, List.setIfInBounds_toArray, List.set_cons_zero, List.set_cons_succ]
          refine qstep (o := ⟨some 51, _, _, _, _, _⟩) (v := ?_) (by rfl) (fun wq hSw => ?_) ?_
          rotate_left
          · (go_simp; try with_reducible rfl)
          try simp only [Act.put, List.setIfInBounds_toArray, List.set_cons_zero, List.set_cons_succ]
          refine qstep (o := ⟨some 52, _, _, _, _, _⟩) (v := ?_) (by rfl) (fun wq hSw => ?_) ?_
          rotate_left
          · (have hb9 := hSw.blk HB5.out (fun h => h); have x0 := hb9.cell (i := 0) rfl; have x1 := hb9.cell (i := 1) rfl; have x2 := hb9.cell (i := 2) rfl; have x3 := hb9.cell (i := 3) rfl; have x4 := hb9.cell (i := 4) rfl; have x5 := hb9.cell (i := 5) rfl; have x6 := hb9.cell (i := 6) rfl; have x7 := hb9.cell (i := 7) rfl; clear hb9; have c1 := (hSw.cell (p := ⟨gR, oR + i, none⟩) hgR5 (fun h => h)).trans HD1.out; go_simp; try with_reducible rfl)
          try simp only [Act.put, List.setIfInBounds_toArray, List.set_cons_zero, List.set_cons_succ]
          refine qcall (o := ⟨some 53, _, _, _, _, _⟩) (v := .slice none 0 0) (by rfl) (fun wq hSw => ?_) (fun wq hSw => Calls.mono (vchain_zero F h4 h6 g n l hl nk i1 HRE.out (by omega) (by omega) _ (hSw.blk HV5.out (fun h => h))) ?_) ?_
          · (go_simp; try with_reducible rfl)
          · rintro e w9 ⟨rfl, hk⟩; exact ⟨rfl, hSw.trans hk (fun _ _ h => h)⟩
          try simp only [Act.put, List.setIfInBounds_toArray, List.set_cons_zero, List.set_cons_succ]
          refine qstep (o := ⟨some 6, _, _, _, _, _⟩) (v := ?_) (by rfl) (fun wq hSw => ?_) ?_
          rotate_left
          · (go_simp; try with_reducible rfl)
          try simp only [Act.put, List.setIfInBounds_toArray, List.set_cons_zero, List.set_cons_succ]
          refine wpQuiet_nil ?_
          intro wz hHeld
          have HK7 := Lib.hid (HK6.out.trans hHeld (fun _ _ h => h))
          clear hHeld
          rename World => V6
          go_wp2_with fail
          refine (refCheck9_nil _).mono ?_; rintro e w9 ⟨rfl, rfl⟩
          go_wp2_with fail
          go_loopw [7] (fun kv wr => kv = .int .i64 0 ∧ wr = V6) (fun _ _ => 0)
          case atStart => exact ⟨rfl, rfl⟩
          case round =>
            obtain ⟨rfl, rfl⟩ := hrel
            go_wp2
            go_roundw
            case rel => exact ⟨i + 1, by omega, by go_num, HK7.out⟩
            case measure => simp [intOf]; omega
    · have hinI : ¬ (i : Int) < (nk : Int) := by omega
      go_wp2
      go_ret
      refine ⟨rfl, ?_⟩
      have := HKz.out.trans HKr.out (fun _ _ h => h)
      exact this

end Go.Proofs.YtndadgenkmgmaaaGreat
