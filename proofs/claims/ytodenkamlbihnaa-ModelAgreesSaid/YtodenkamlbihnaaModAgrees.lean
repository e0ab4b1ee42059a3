/-
  ModelAgrees answers yes for every list of steps, time and key. Condition: none beside the form's own reach.
-/
import Derived.Test.YtodenkamlbihnaaModAwake
import Derived.Test.YtodenkamlbihnaaModOpens
import Derived.Test.YtodenkamlbihnaaModWg
import Derived.Test.YtodenkamlbihnaaModSame
import Derived.Deep.Cut
namespace Go.Proofs.Ytodenkamlbihnaa
open Go.RowKit Go.Deep Plain PlainE
set_option linter.unusedVariables false

theorem RW.keptZ {Z : Nat → Prop} {w w' : World} {A : Option Addr} {c : Nat} {xs : List Wri} (h : RW w A c xs) (hk : Kept Z w w') (hA : ∀ a, A = some a → ¬ Z a.block) : RW w' A c xs :=
  ⟨h.le, h.max, h.none', fun hp => by
    obtain ⟨g, off, e, hg, hc⟩ := h.some' hp
    exact ⟨g, off, e, Nat.lt_of_lt_of_le hg hk.size, fun j u hu => (hk.cell (p := ⟨g, off + j, none⟩) hg (hA ⟨g, off, none⟩ e)).trans (hc j u hu)⟩⟩

set_option maxRecDepth 100000 in
set_option maxHeartbeats 8000000 in
theorem lawModelAgrees (w : World) (a : Option Addr) (c : Nat) (ys : List Stp) (n : Nat) (hn : ys.length = n) (hm : n ≤ maxLen) (hS : Stps w a ys) (t : Nat) (ht : t < 18446744073709551616) (key : ByteArray) (hkey : key.size ≤ maxLen) :
    Calls Try.prog 3 #[.slice a n c, .int .u64 (t : Int), .string key] w fun e w' => e = .returned (.bool true) ∧ Below w.heap.size w w' := by
  unfold maxLen at hm
  have HST := Lib.hid hS
  have HN := Lib.hid hn
  have HKEY0 := Lib.hid hkey
  clear hS hn hkey
  go_enter Try.func3, Try.ntmps3
  go_wp2_with fail
  refine (mnew_any _).mono ?_; rintro e w1 ⟨p, rfl, hM1, hB1⟩
  have HM1 := Lib.hid hM1
  have HB1 := Lib.hid hB1
  clear hM1 hB1
  go_wp2_with fail
  obtain ⟨w1b, hw1b⟩ : ∃ w1b, w1.alloc (.cells #[.slice none 0 0, .int .u64 0, .slice none 0 0, .slice none 0 0] 31) = w1b := ⟨_, rfl⟩
  have hbl : Blk w1b w1.heap.size 31 [.slice none 0 0, .int .u64 0, .slice none 0 0, .slice none 0 0] := hw1b ▸ Blk.new w1 _ _
  have hbz := (Below.refl w1.heap.size w1).alloc (Nat.le_refl _) (.cells #[.slice none 0 0, .int .u64 0, .slice none 0 0, .slice none 0 0] 31)
  have hsz1 : (w1.alloc (.cells #[.slice none 0 0, .int .u64 0, .slice none 0 0, .slice none 0 0] 31)).heap.size = w1.heap.size + 1 := nblk_alloc _ _
  rw [hw1b] at hbz hsz1
  have HWD0 := Lib.hid (show WdS w1b w1.heap.size w.heap.size (fun i => i = w1.heap.size) [] 0 [] from ⟨.slice none 0 0, .slice none 0 0, [], hbl, World.ownsRow_nil _ _ _ _, World.ownsRow_nil _ _ _ _, fun i x hx => by simp at hx, rfl, fun g hg => (by cases hg), fun g hg => (by cases hg), fun i hi => by subst hi; have := HB1.out.size; omega⟩)
  have HM1b := Lib.hid (HM1.out.below hbz (Nat.le_refl _))
  have HB1b := Lib.hid (HB1.out.trans (hbz.mono HB1.out.size))
  have HD0 := Lib.hid (show ∀ i, (w.heap.size ≤ i ∧ i < w1.heap.size) → ¬ i = w1.heap.size from fun i hi h => by omega)
  try rw [hw1b]
  obtain ⟨q, hq⟩ : ∃ q, w1.heap.size = q := ⟨_, rfl⟩
  rw [hq] at HWD0
  try rw [hq]
  have HQQ := Lib.hid hq
  clear hbl hbz hsz1 hw1b HM1 HB1 hq
  go_wp2_with fail
  refine (awake_any _).mono ?_; rintro e w2 ⟨rfl, hB2⟩
  have HM2 := Lib.hid (HM1b.out.below hB2 (Nat.le_refl _))
  have HW2 := Lib.hid (HWD0.out.below hB2 (Nat.le_refl _))
  have HB2 := Lib.hid (HB1b.out.trans (hB2.mono HB1b.out.size))
  clear hB2 HM1b HB1b HWD0
  by_cases h40 : 30 < n
  · have h41 : ((n : Int) ≤ 30) = False := by simp; omega
    go_wp2_with fail
    refine (awake_any _).mono ?_; rintro e w3 ⟨rfl, hB3⟩
    have HB3 := Lib.hid (HB2.out.trans (hB3.mono HB2.out.size))
    clear hB3
    go_wp2
    go_ret
    exact ⟨by first | rfl | simp, HB3.out⟩
  · have h41 : ¬ (30 : Int) < (n : Int) := by omega
    go_wp2_with fail
    go_loopw [2, 9] (fun ky i wr => ∃ (k : Nat) (Z Z2 : Nat → Prop) (m : Nat) (bs : List (List Wri)) (fl : Nat) (sn : Lit → Option Nat) (sv : List Sp) (key : ByteArray), ky = .string key ∧ i = .int .i64 k ∧ k ≤ n ∧ MdS wr p w.heap.size Z m bs fl sn ∧ WdS wr q w.heap.size Z2 bs fl sv ∧ SnR sn sv ∧ (∀ i, Z i → ¬ Z2 i) ∧ m ≤ 6 * k ∧ bs.length ≤ k ∧ sv.length ≤ k ∧ (∀ b ∈ bs, b.length ≤ 5) ∧ key.size ≤ maxLen ∧ Below w.heap.size w wr) (fun _ i _ => n - (intOf i).toNat)
    case atStart => exact ⟨0, _, _, 0, [], 0, _, [], key, rfl, rfl, Nat.zero_le _, HM2.out, HW2.out, ⟨fun x hx => by simp at hx, by simp, fun x hx => by simp at hx, fun kl y hy => by cases hy⟩, fun i hi h => HD0.out i hi (by rw [HQQ.out]; exact h), Nat.le_refl _, Nat.le_refl _, Nat.le_refl _, fun b hb => by simp at hb, HKEY0.out, HB2.out⟩
    case round =>
      clear HKEY0 HM2 HB2 HW2 HD0 key
      obtain ⟨k, Z, Z2, m, bs, fl, sn, sv, key, rfl, rfl, hk, hM, hW, hSN, hD, hm6, hbl, hsl, hb5, hks, hbel⟩ := hrel
      have HMr := Lib.hid hM
      have HWr := Lib.hid hW
      have HSN := Lib.hid hSN
      have HD := Lib.hid hD
      have HB5 := Lib.hid hb5
      have HKEY := Lib.hid hks
      have HBr := Lib.hid hbel
      clear hM hW hSN hD hb5 hks hbel
      by_cases hlt : k < n
      · obtain ⟨y, hy⟩ : ∃ y, ys[k]? = some y := ⟨_, List.getElem?_eq_getElem (by have := HN.out; omega)⟩
        obtain ⟨g, off, eA, hg, hcell⟩ := HST.out.at' (by have := HN.out; omega)
        have HC0 := Lib.hid (hcell k 0 y _ hy rfl)
        have HC1 := Lib.hid (hcell k 1 y _ hy rfl)
        have HC2 := Lib.hid (hcell k 2 y _ hy rfl)
        have HC3 := Lib.hid (hcell k 3 y _ hy rfl)
        have HC4 := Lib.hid (hcell k 4 y _ hy rfl)
        have HMEM := Lib.hid (List.mem_of_getElem? hy)
        have HGLw := Lib.hid hg
        have HL9 := Lib.hid (show bs.length ≤ k ∧ k < 30 ∧ m ≤ 6 * k ∧ sv.length ≤ k by omega)
        subst eA
        clear hcell hy hg hm6 hbl hsl
        have ht3 : 0 ≤ y.th % 3 ∧ y.th % 3 < 3 := by omega
        have hj2 : 0 ≤ y.jj % 2 ∧ y.jj % 2 < 2 := by omega
        go_upto_region 7 with fail
        replace HC0 := Lib.hid ((HBr.out.cell (p := ⟨g, off + k * 5, none⟩) HGLw.out).trans HC0.out)
        replace HC2 := Lib.hid ((HBr.out.cell (p := ⟨g, off + k * 5 + 2, none⟩) HGLw.out).trans HC2.out)
        replace HC3 := Lib.hid ((HBr.out.cell (p := ⟨g, off + k * 5 + 3, none⟩) HGLw.out).trans HC3.out)
        have HGL := Lib.hid (Nat.lt_of_lt_of_le HGLw.out HBr.out.size)
        refine qregion (fun w' => Kept (fun _ => False) wr w') (by kernel_rfl) (by kernel_rfl) ((Kept.refl _ _).drew) ?_
        refine qstep (o := ⟨some 39, _, _, _, _, _⟩) (v := ?_) (by rfl) (fun wq hSw => ?_) ?_
        rotate_left
        · (go_simp; try with_reducible rfl)
        try simp only [Act.put, List.setIfInBounds_toArray, List.set_cons_zero, List.set_cons_succ]
        refine qstep (o := ⟨some 40, _, _, _, _, _⟩) (v := ?_) (by rfl) (fun wq hSw => ?_) ?_
        rotate_left
        · (go_simp; try with_reducible rfl)
        try simp only [Act.put, List.setIfInBounds_toArray, List.set_cons_zero, List.set_cons_succ]
        refine qstep (o := ⟨some 41, _, _, _, _, _⟩) (v := ?_) (by rfl) (fun wq hSw => ?_) ?_
        rotate_left
        · (go_simp; try with_reducible rfl)
        try simp only [Act.put, List.setIfInBounds_toArray, List.set_cons_zero, List.set_cons_succ]
        refine qstep (o := ⟨some 42, _, _, _, _, _⟩) (v := ?_) (by rfl) (fun wq hSw => ?_) ?_
        rotate_left
        · (go_simp; try with_reducible rfl)
        try simp only [Act.put, List.setIfInBounds_toArray, List.set_cons_zero, List.set_cons_succ]
        refine qstep (o := ⟨some 43, _, _, _, _, _⟩) (v := ?_) (by rfl) (fun wq hSw => ?_) ?_
        rotate_left
        · (have s2 := (hSw.cell (p := ⟨g, off + k * 5 + 2, none⟩) HGL.out (fun h => h)).trans HC2.out; have s3 := (hSw.cell (p := ⟨g, off + k * 5 + 3, none⟩) HGL.out (fun h => h)).trans HC3.out; go_simp; try with_reducible rfl)
        try simp only [Act.put, List.setIfInBounds_toArray, List.set_cons_zero, List.set_cons_succ]
        refine qcall (o := ⟨some 44, _, _, _, _, _⟩) (v := .int .i64 (y.th % 3)) (by rfl) (fun wq hSw => ?_) (fun wq hSw => Calls.mono (mod_any y.th 3 wq (by omega) (by omega)) ?_) ?_
        · (go_simp; try with_reducible rfl)
        · rintro e w9 ⟨rfl, rfl⟩; exact ⟨rfl, hSw⟩
        try simp only [Act.put, List.setIfInBounds_toArray, List.set_cons_zero, List.set_cons_succ]
        refine qstep (o := ⟨some 45, _, _, _, _, _⟩) (v := ?_) (by rfl) (fun wq hSw => ?_) ?_
        rotate_left
        · (go_simp; try with_reducible rfl)
        try simp only [Act.put, List.setIfInBounds_toArray, List.set_cons_zero, List.set_cons_succ]
        refine qstep (o := ⟨some 46, _, _, _, _, _⟩) (v := ?_) (by rfl) (fun wq hSw => ?_) ?_
        rotate_left
        · (go_simp; try with_reducible rfl)
        try simp only [Act.put, List.setIfInBounds_toArray, List.set_cons_zero, List.set_cons_succ]
        refine qstep (o := ⟨some 47, _, _, _, _, _⟩) (v := ?_) (by rfl) (fun wq hSw => ?_) ?_
        rotate_left
        · (go_simp; try with_reducible rfl)
        try simp only [Act.put, List.setIfInBounds_toArray, List.set_cons_zero, List.set_cons_succ]
        refine qstep (o := ⟨some 48, _, _, _, _, _⟩) (v := ?_) (by rfl) (fun wq hSw => ?_) ?_
        rotate_left
        · (go_simp; try with_reducible rfl)
        try simp only [Act.put, List.setIfInBounds_toArray, List.set_cons_zero, List.set_cons_succ]
        refine qstep (o := ⟨some 49, _, _, _, _, _⟩) (v := ?_) (by rfl) (fun wq hSw => ?_) ?_
        rotate_left
        · (have s2 := (hSw.cell (p := ⟨g, off + k * 5 + 2, none⟩) HGL.out (fun h => h)).trans HC2.out; have s3 := (hSw.cell (p := ⟨g, off + k * 5 + 3, none⟩) HGL.out (fun h => h)).trans HC3.out; go_simp; try with_reducible rfl)
        try simp only [Act.put, List.setIfInBounds_toArray, List.set_cons_zero, List.set_cons_succ]
        refine qcall (o := ⟨some 50, _, _, _, _, _⟩) (v := .int .i64 (y.jj % 2)) (by rfl) (fun wq hSw => ?_) (fun wq hSw => Calls.mono (mod_any y.jj 2 wq (by omega) (by omega)) ?_) ?_
        · (go_simp; try with_reducible rfl)
        · rintro e w9 ⟨rfl, rfl⟩; exact ⟨rfl, hSw⟩
        try simp only [Act.put, List.setIfInBounds_toArray, List.set_cons_zero, List.set_cons_succ]
        refine qstep (o := ⟨some 10, _, _, _, _, _⟩) (v := ?_) (by rfl) (fun wq hSw => ?_) ?_
        rotate_left
        · (go_simp; try with_reducible rfl)
        try simp only [Act.put, List.setIfInBounds_toArray, List.set_cons_zero, List.set_cons_succ]
        refine qstep (o := ⟨some 11, _, _, _, _, _⟩) (v := ?_) (by rfl) (fun wq hSw => ?_) ?_
        rotate_left
        · (go_simp; try with_reducible rfl)
        try simp only [Act.put, List.setIfInBounds_toArray, List.set_cons_zero, List.set_cons_succ]
        refine wpQuiet_nil ?_
        intro wz hHeld
        have HM3 := Lib.hid (HMr.out.keep hHeld (fun _ _ h => h))
        have HW3 := Lib.hid (HWr.out.keep hHeld (fun _ _ h => h))
        have HB3 := Lib.hid (HBr.out.trans (hHeld.below HBr.out.size (fun i h => h.elim)))
        have c0 := (hHeld.cell (p := ⟨g, off + k * 5, none⟩) HGL.out (fun h => h)).trans HC0.out
        clear hHeld HC2 HC3 HC0 HGL HMr HWr HBr
        go_wp2_with fail
        refine (mod_any y.kind 5 _ (by omega) (by omega)).mono ?_; rintro e w9 ⟨rfl, rfl⟩
        obtain ⟨qq, hq⟩ : ∃ q, y.kind % 5 = q := ⟨_, rfl⟩
        rw [hq]
        have hq5 : 0 ≤ qq ∧ qq < 5 := by omega
        clear hq c0
        by_cases hq2 : qq = 2
        · subst hq2
          go_wp2_with fail
          refine (mopen_any _ HM3.out (by have := HL9.out; omega) (by have := HL9.out; omega) _ _ ht3 hj2).mono ?_; rintro e w4 ⟨rfl, hM4, hK4⟩
          have HM4 := Lib.hid hM4
          have HW4 := Lib.hid (HW3.out.keep hK4 (fun i hi h => HD.out i h hi))
          have HB4 := Lib.hid (HB3.out.trans (hK4.below HB3.out.size (fun i hi => (HM3.out.lt hi).1)))
          have HS4 := Lib.hid hK4.size
          clear hM4 hK4
          go_wp2_with fail
          refine (wopen_any _ HW4.out (by have := HL9.out; omega) (by have := HL9.out; omega) _ _).mono ?_; rintro e w5 ⟨rfl, hW5, hK5⟩
          have HMz := Lib.hid (HM4.out.keep hK5 (fun i hi h => HD.out i hi h))
          have HWz := Lib.hid hW5
          have HBz := Lib.hid (HB4.out.trans (hK5.below HB4.out.size (fun i hi => (HW4.out.lt hi).1)))
          have HSz := Lib.hid (HSN.out.put ht3 hj2 bs.length)
          have HDz := Lib.hid (show ∀ i, Z i → ¬ (Z2 i ∨ (w4.heap.size ≤ i ∧ i < w5.heap.size)) from fun i hi h2 => h2.elim (HD.out i hi) (fun h2 => by have := (HM3.out.lt hi).2; have := HS4.out; omega))
          have HLS := Lib.hid (delS_len (y.th % 3) (y.jj % 2) sv)
          clear hW5 hK5
          have hTz : (bs).length ≤ 100 := by have := HL9.out; first | omega | (simp; omega)
          have HBF := Lib.hid (show ∀ b ∈ bs, b.length ≤ 5 from HB5.out)
          have HTZ := Lib.hid hTz
          clear hTz
          go_wp2_with fail
          refine (same_any _ HMz.out HWz.out HSz.out HTZ.out (by have := HL9.out; omega) (by have := HL9.out; have := HLS.out; first | omega | (simp; omega)) HBF.out t ht key HKEY.out).mono ?_; rintro e w9 ⟨rfl, hB9⟩
          have HMy := Lib.hid (HMz.out.below hB9 (Nat.le_refl _))
          have HWy := Lib.hid (HWz.out.below hB9 (Nat.le_refl _))
          have HBy := Lib.hid (HBz.out.trans (hB9.mono HBz.out.size))
          clear hB9
          go_wp2
          go_roundw
          case rel => exact ⟨k + 1, _, _, _, _, _, _, _, key, rfl, by go_num, by omega, HMy.out, HWy.out, HSz.out, HDz.out, by have := HL9.out; omega, by have := HL9.out; first | omega | (simp; omega), by have := HL9.out; have := HLS.out; first | omega | (simp; omega), HBF.out, HKEY.out, HBy.out⟩
          case measure => simp [intOf]; omega
        · have hn2 : (qq == 2) = false := by simp [hq2]
          by_cases hq3 : qq = 3
          · subst hq3
            go_wp2_with fail
            refine (mrelease_any _ HM3.out _ _ ht3 hj2).mono ?_; rintro e w4 ⟨rfl, hM4, hK4⟩
            have HM4 := Lib.hid hM4
            have HW4 := Lib.hid (HW3.out.keep hK4 (fun i hi h => HD.out i h hi))
            have HB4 := Lib.hid (HB3.out.trans (hK4.below HB3.out.size (fun i hi => (HM3.out.lt hi).1)))
            have HS4 := Lib.hid hK4.size
            clear hM4 hK4
            go_wp2_with fail
            refine (wrelease_any _ HW4.out (by have := HL9.out; omega) _ _).mono ?_; rintro e w5 ⟨rfl, hW5, hK5⟩
            have HMz := Lib.hid (HM4.out.keep hK5 (fun i hi h => HD.out i hi h))
            have HWz := Lib.hid hW5
            have HBz := Lib.hid (HB4.out.trans (hK5.below HB4.out.size (fun i hi => (HW4.out.lt hi).1)))
            have HSz := Lib.hid (HSN.out.del ht3 hj2)
            have HDz := Lib.hid (show ∀ i, Z i → ¬ (Z2 i ∨ (w4.heap.size ≤ i ∧ i < w5.heap.size)) from fun i hi h2 => h2.elim (HD.out i hi) (fun h2 => by have := (HM3.out.lt hi).2; have := HS4.out; omega))
            have HLS := Lib.hid (delS_len (y.th % 3) (y.jj % 2) sv)
            clear hW5 hK5
            have hTz : (bs).length ≤ 100 := by have := HL9.out; first | omega | (simp; omega)
            have HBF := Lib.hid (show ∀ b ∈ bs, b.length ≤ 5 from HB5.out)
            have HTZ := Lib.hid hTz
            clear hTz
            go_wp2_with fail
            refine (same_any _ HMz.out HWz.out HSz.out HTZ.out (by have := HL9.out; omega) (by have := HL9.out; have := HLS.out; first | omega | (simp; omega)) HBF.out t ht key HKEY.out).mono ?_; rintro e w9 ⟨rfl, hB9⟩
            have HMy := Lib.hid (HMz.out.below hB9 (Nat.le_refl _))
            have HWy := Lib.hid (HWz.out.below hB9 (Nat.le_refl _))
            have HBy := Lib.hid (HBz.out.trans (hB9.mono HBz.out.size))
            clear hB9
            go_wp2
            go_roundw
            case rel => exact ⟨k + 1, _, _, _, _, _, _, _, key, rfl, by go_num, by omega, HMy.out, HWy.out, HSz.out, HDz.out, by have := HL9.out; omega, by have := HL9.out; first | omega | (simp; omega), by have := HL9.out; have := HLS.out; first | omega | (simp; omega), HBF.out, HKEY.out, HBy.out⟩
            case measure => simp [intOf]; omega
          · have hn3 : (qq == 3) = false := by simp [hq3]
            by_cases hq4 : qq = 4
            · subst hq4
              have HGL3 := Lib.hid (show g < wz.heap.size from Nat.lt_of_lt_of_le HGLw.out HB3.out.size)
              have HC43 := Lib.hid ((HB3.out.cell (p := ⟨g, off + k * 5 + 4, none⟩) HGLw.out).trans HC4.out)
              obtain ⟨tq, htm⟩ : ∃ tq : Nat, (y.to : Int).tmod ((bs.length : Int) + 2) = (tq : Int) := ⟨y.to % (bs.length + 2), by rw [show ((bs.length : Int) + 2) = ((bs.length + 2 : Nat) : Int) by omega]; rfl⟩
              have htm2 : (y.to : Int) % ((bs.length : Int) + 2) = (tq : Int) := by rw [← htm]; exact (Int.tmod_eq_emod_of_nonneg (by omega)).symm
              have ew : IntKind.u64.wrap ((bs.length : Int) + 2) = (bs.length : Int) + 2 := by rw [IntKind.wrap_u64]; have := HL9.out; omega
              have htl : (tq : Int) ≤ (bs.length : Int) + 1 := by rw [← htm2]; have := Int.emod_lt_of_pos (y.to : Int) (show (0 : Int) < (bs.length : Int) + 2 by omega); omega
              have ew2 : IntKind.u64.wrap (tq : Int) = (tq : Int) := by rw [IntKind.wrap_u64]; have := HL9.out; omega
              have hne2 : ((bs.length : Int) + 2 == 0) = false := by simp; omega
              go_upto_region 21 with fail
              refine qregion (fun w' => Kept (fun _ => False) wz w') (by kernel_rfl) (by kernel_rfl) ((Kept.refl _ _).drew) ?_
              refine qstep (o := ⟨some 100, _, _, _, _, _⟩) (v := ?_) (by rfl) (fun wq hSw => ?_) ?_
              rotate_left
              · (go_simp; try with_reducible rfl)
              try simp only [Act.put, List.setIfInBounds_toArray, List.set_cons_zero, List.set_cons_succ]
              refine qstep (o := ⟨some 101, _, _, _, _, _⟩) (v := ?_) (by rfl) (fun wq hSw => ?_) ?_
              rotate_left
              · (go_simp; try with_reducible rfl)
              try simp only [Act.put, List.setIfInBounds_toArray, List.set_cons_zero, List.set_cons_succ]
              refine qstep (o := ⟨some 102, _, _, _, _, _⟩) (v := ?_) (by rfl) (fun wq hSw => ?_) ?_
              rotate_left
              · (go_simp; try with_reducible rfl)
              try simp only [Act.put, List.setIfInBounds_toArray, List.set_cons_zero, List.set_cons_succ]
              refine qstep (o := ⟨some 103, _, _, _, _, _⟩) (v := ?_) (by rfl) (fun wq hSw => ?_) ?_
              rotate_left
              · (go_simp; try with_reducible rfl)
              try simp only [Act.put, List.setIfInBounds_toArray, List.set_cons_zero, List.set_cons_succ]
              refine qstep (o := ⟨some 104, _, _, _, _, _⟩) (v := ?_) (by rfl) (fun wq hSw => ?_) ?_
              rotate_left
              · (have s4 := (hSw.cell (p := ⟨g, off + k * 5 + 4, none⟩) HGL3.out (fun h => h)).trans HC43.out; go_simp; try with_reducible rfl)
              try simp only [Act.put, List.setIfInBounds_toArray, List.set_cons_zero, List.set_cons_succ]
              refine qstep (o := ⟨some 105, _, _, _, _, _⟩) (v := ?_) (by rfl) (fun wq hSw => ?_) ?_
              rotate_left
              · (go_simp; try with_reducible rfl)
              try simp only [Act.put, List.setIfInBounds_toArray, List.set_cons_zero, List.set_cons_succ]
              refine qcall (o := ⟨some 106, _, _, _, _, _⟩) (v := .int .u64 (bs.length : Int)) (by rfl) (fun wq hSw => ?_) (fun wq hSw => Calls.mono (wtime_any wq (HW3.out.keep hSw (fun _ _ h => h)) (by have := HL9.out; omega)) ?_) ?_
              · (go_simp; try with_reducible rfl)
              · rintro e w9 ⟨rfl, rfl⟩; exact ⟨rfl, hSw⟩
              try simp only [Act.put, List.setIfInBounds_toArray, List.set_cons_zero, List.set_cons_succ]
              refine qstep (o := ⟨some 107, _, _, _, _, _⟩) (v := ?_) (by rfl) (fun wq hSw => ?_) ?_
              rotate_left
              · (go_simp; try with_reducible rfl)
              try simp only [Act.put, List.setIfInBounds_toArray, List.set_cons_zero, List.set_cons_succ]
              refine qstep (o := ⟨some 108, _, _, _, _, _⟩) (v := .int .u64 (tq : Int)) (by rfl) (fun wq hSw => ?_) ?_
              · (go_simp; try first | (with_reducible rfl) | (simp; omega) | (intros; omega) | simp [*])
              try simp only [Act.put, List.setIfInBounds_toArray, List.set_cons_zero, List.set_cons_succ]
              refine qstep (o := ⟨some 12, _, _, _, _, _⟩) (v := ?_) (by rfl) (fun wq hSw => ?_) ?_
              rotate_left
              · (go_simp; try with_reducible rfl)
              try simp only [Act.put, List.setIfInBounds_toArray, List.set_cons_zero, List.set_cons_succ]
              refine wpQuiet_nil ?_
              intro wy hHeld
              have HM4 := Lib.hid (HM3.out.keep hHeld (fun _ _ h => h))
              have HW4 := Lib.hid (HW3.out.keep hHeld (fun _ _ h => h))
              have HB4 := Lib.hid (HB3.out.trans (hHeld.below HB3.out.size (fun i h => h.elim)))
              clear hHeld htm htm2 htl ew ew2 hne2
              obtain ⟨x6, hx6⟩ : ∃ x, leastS bs.length sv = x := ⟨_, rfl⟩
              have hwm : IsWm sn bs.length x6 := hx6 ▸ HSN.out.least bs.length
              have HXE := Lib.hid hx6
              have HX := Lib.hid hwm
              clear hx6 hwm
              go_wp2_with fail
              refine (mraise_any _ HM4.out tq).mono ?_; rintro e w5 ⟨x5, hx5, rfl, hM5, hK5⟩
              obtain rfl := hx5.uniq HX.out
              have HM5 := Lib.hid hM5
              have HW5 := Lib.hid (HW4.out.keep hK5 (fun i hi h => HD.out i h hi))
              have HB5b := Lib.hid (HB4.out.trans (hK5.below HB4.out.size (fun i hi => (HM4.out.lt hi).1)))
              clear hM5 hK5 hx5
              obtain ⟨dd, hdd⟩ : ∃ dd, decide (tq ≤ x5) = dd := ⟨_, rfl⟩
              rw [hdd]
              go_wp2_with fail
              refine (wraise_any _ HW5.out (by have := HL9.out; omega) (by have := HL9.out; omega) tq x5 HXE.out).mono ?_; rintro e w6 ⟨rfl, hW6, hK6⟩
              rw [hdd]
              have HMz := Lib.hid (HM5.out.keep hK6 (fun i hi h => HD.out i hi h))
              have HWz := Lib.hid hW6
              have HBz := Lib.hid (HB5b.out.trans (hK6.below HB5b.out.size (fun i hi => (HW5.out.lt hi).1)))
              have HSz := HSN
              have HDz := HD
              have HLS := Lib.hid (Nat.le_refl sv.length)
              clear hW6 hK6 hdd
              cases dd
              · have hTz : (bs).length ≤ 100 := by have := HL9.out; first | omega | (simp; omega)
                have HBF := Lib.hid (show ∀ b ∈ bs, b.length ≤ 5 from HB5.out)
                have HTZ := Lib.hid hTz
                clear hTz
                go_wp2_with fail
                refine (same_any _ HMz.out HWz.out HSz.out HTZ.out (by have := HL9.out; omega) (by have := HL9.out; have := HLS.out; first | omega | (simp; omega)) HBF.out t ht key HKEY.out).mono ?_; rintro e w9 ⟨rfl, hB9⟩
                have HMy := Lib.hid (HMz.out.below hB9 (Nat.le_refl _))
                have HWy := Lib.hid (HWz.out.below hB9 (Nat.le_refl _))
                have HBy := Lib.hid (HBz.out.trans (hB9.mono HBz.out.size))
                clear hB9
                go_wp2
                go_roundw
                case rel => exact ⟨k + 1, _, _, _, _, _, _, _, key, rfl, by go_num, by omega, HMy.out, HWy.out, HSz.out, HDz.out, by have := HL9.out; omega, by have := HL9.out; first | omega | (simp; omega), by have := HL9.out; have := HLS.out; first | omega | (simp; omega), HBF.out, HKEY.out, HBy.out⟩
                case measure => simp [intOf]; omega
              · have hTz : (bs).length ≤ 100 := by have := HL9.out; first | omega | (simp; omega)
                have HBF := Lib.hid (show ∀ b ∈ bs, b.length ≤ 5 from HB5.out)
                have HTZ := Lib.hid hTz
                clear hTz
                go_wp2_with fail
                refine (same_any _ HMz.out HWz.out HSz.out HTZ.out (by have := HL9.out; omega) (by have := HL9.out; have := HLS.out; first | omega | (simp; omega)) HBF.out t ht key HKEY.out).mono ?_; rintro e w9 ⟨rfl, hB9⟩
                have HMy := Lib.hid (HMz.out.below hB9 (Nat.le_refl _))
                have HWy := Lib.hid (HWz.out.below hB9 (Nat.le_refl _))
                have HBy := Lib.hid (HBz.out.trans (hB9.mono HBz.out.size))
                clear hB9
                go_wp2
                go_roundw
                case rel => exact ⟨k + 1, _, _, _, _, _, _, _, key, rfl, by go_num, by omega, HMy.out, HWy.out, HSz.out, HDz.out, by have := HL9.out; omega, by have := HL9.out; first | omega | (simp; omega), by have := HL9.out; have := HLS.out; first | omega | (simp; omega), HBF.out, HKEY.out, HBy.out⟩
                case measure => simp [intOf]; omega
            · have hn4 : (qq == 4) = false := by simp [hq4]
              have HR3 := Lib.hid ((HST.out.row y HMEM.out).1.below HB3.out (Nat.le_refl _))
              have hyr := (HST.out.row y HMEM.out).2
              have HYR := Lib.hid hyr
              have c1 := (HB3.out.cell (p := ⟨g, off + k * 5 + 1, none⟩) HGLw.out).trans HC1.out
              clear hyr
              go_wp2_with fail
              refine (fit_fresh y.A y.c y.b _ y.n HYR.out.1 HYR.out.2.1 HR3.out HYR.out.2.2).mono ?_; rintro e w4 ⟨A4, c4, r4, rfl, hr4, hr5, hR4, hB4, hf4⟩
              have HM4 := Lib.hid (HM3.out.below hB4 (Nat.le_refl _))
              have HW4 := Lib.hid (HW3.out.below hB4 (Nat.le_refl _))
              have HB4 := Lib.hid (HB3.out.trans (hB4.mono HB3.out.size))
              have HR4 := Lib.hid hR4
              have HRL := Lib.hid hr4
              have HF4 := Lib.hid (show ∀ a, A4 = some a → wz.heap.size ≤ a.block from hf4)
              have HS4 := Lib.hid (show wz.heap.size ≤ w4.heap.size from hB4.size)
              clear hB4 hR4 hr4 c1 hf4
              go_wp2_with fail
              refine (mapply_any _ HM4.out (by have := HL9.out; omega) (by have := HL9.out; omega) A4 c4 (fitL y.b) r4 HRL.out (by omega) HR4.out (fitL_sz _) (fitL_chk _)).mono ?_; rintro e w5 ⟨rfl, hM5, hK5⟩
              have HM5 := Lib.hid hM5
              have HW5 := Lib.hid (HW4.out.keep hK5 (fun i hi h => HD.out i h hi))
              have HB5b := Lib.hid (HB4.out.trans (hK5.below HB4.out.size (fun i hi => (HM4.out.lt hi).1)))
              have HR5 := Lib.hid (RW.keptZ HR4.out hK5 (fun a ha h => by have := HF4.out a ha; have := (HM3.out.lt h).2; omega))
              have HS5 := Lib.hid hK5.size
              clear hM5 hK5
              go_wp2_with fail
              refine (wadd_any _ HW5.out (by have := HL9.out; omega) A4 c4 (fitL y.b) r4 HRL.out (by omega) HR5.out).mono ?_; rintro e w6 ⟨rfl, hW6, hK6⟩
              have HR6 := Lib.hid (RW.keptZ HR5.out hK6 (fun a ha h => by have := HF4.out a ha; have := (HW3.out.lt h).2; omega))
              have HDz := Lib.hid (show ∀ i, (Z i ∨ (w4.heap.size ≤ i ∧ i < w5.heap.size)) → ¬ (Z2 i ∨ (w5.heap.size ≤ i ∧ i < w6.heap.size)) from fun i hi h2 => by
                have h4 := HS4.out
                have h5 := HS5.out
                rcases hi with hi | hi
                · rcases h2 with h2 | h2
                  · exact HD.out i hi h2
                  · have := (HM3.out.lt hi).2; omega
                · rcases h2 with h2 | h2
                  · have := (HW3.out.lt h2).2; omega
                  · omega)
              have HMz := Lib.hid (HM5.out.keep hK6 (fun i hi h => HDz.out i hi (.inl h)))
              have HWz := Lib.hid hW6
              have HBz := Lib.hid (HB5b.out.trans (hK6.below HB5b.out.size (fun i hi => (HW5.out.lt hi).1)))
              have HSz := HSN
              have HLS := Lib.hid (Nat.le_refl sv.length)
              clear hW6 hK6
              by_cases hr0 : 0 < r4
              · obtain ⟨x, hx⟩ : ∃ x, (fitL y.b)[0]? = some x := ⟨_, List.getElem?_eq_getElem (by have := HRL.out; omega)⟩
                obtain ⟨g6, o6, eA, hg6, hcell6⟩ := HR6.out.at (by have := HRL.out; omega)
                obtain ⟨d0, _, _⟩ := hcell6 0 x hx
                have hks := fitL_sz y.b x (List.mem_of_getElem? hx)
                subst eA
                simp only [Nat.zero_mul, Nat.add_zero] at d0
                obtain ⟨k0, k1, k2⟩ := x
                have HK0 := Lib.hid (show k0.size ≤ maxLen from hks.1)
                clear hx hcell6 hg6 hks
                have hTz : ((bs ++ [fitL y.b])).length ≤ 100 := by have := HL9.out; first | omega | (simp; omega)
                have HBF := Lib.hid (show ∀ b ∈ (bs ++ [fitL y.b]), b.length ≤ 5 from fun b hb => by rcases List.mem_append.1 hb with h | h; exact HB5.out b h; simp at h; subst h; exact fitL_len _)
                have HTZ := Lib.hid hTz
                clear hTz
                go_wp2_with fail
                refine (same_any _ HMz.out HWz.out HSz.out HTZ.out (by have := HL9.out; omega) (by have := HL9.out; have := HLS.out; first | omega | (simp; omega)) HBF.out t ht k0 HK0.out).mono ?_; rintro e w9 ⟨rfl, hB9⟩
                have HMy := Lib.hid (HMz.out.below hB9 (Nat.le_refl _))
                have HWy := Lib.hid (HWz.out.below hB9 (Nat.le_refl _))
                have HBy := Lib.hid (HBz.out.trans (hB9.mono HBz.out.size))
                clear hB9
                go_wp2
                go_roundw
                case rel => exact ⟨k + 1, _, _, _, _, _, _, _, k0, rfl, by go_num, by omega, HMy.out, HWy.out, HSz.out, HDz.out, by have := HL9.out; omega, by have := HL9.out; first | omega | (simp; omega), by have := HL9.out; have := HLS.out; first | omega | (simp; omega), HBF.out, HK0.out, HBy.out⟩
                case measure => simp [intOf]; omega
              · obtain rfl : r4 = 0 := by omega
                have hTz : ((bs ++ [fitL y.b])).length ≤ 100 := by have := HL9.out; first | omega | (simp; omega)
                have HBF := Lib.hid (show ∀ b ∈ (bs ++ [fitL y.b]), b.length ≤ 5 from fun b hb => by rcases List.mem_append.1 hb with h | h; exact HB5.out b h; simp at h; subst h; exact fitL_len _)
                have HTZ := Lib.hid hTz
                clear hTz
                go_wp2_with fail
                refine (same_any _ HMz.out HWz.out HSz.out HTZ.out (by have := HL9.out; omega) (by have := HL9.out; have := HLS.out; first | omega | (simp; omega)) HBF.out t ht key HKEY.out).mono ?_; rintro e w9 ⟨rfl, hB9⟩
                have HMy := Lib.hid (HMz.out.below hB9 (Nat.le_refl _))
                have HWy := Lib.hid (HWz.out.below hB9 (Nat.le_refl _))
                have HBy := Lib.hid (HBz.out.trans (hB9.mono HBz.out.size))
                clear hB9
                go_wp2
                go_roundw
                case rel => exact ⟨k + 1, _, _, _, _, _, _, _, key, rfl, by go_num, by omega, HMy.out, HWy.out, HSz.out, HDz.out, by have := HL9.out; omega, by have := HL9.out; first | omega | (simp; omega), by have := HL9.out; have := HLS.out; first | omega | (simp; omega), HBF.out, HKEY.out, HBy.out⟩
                case measure => simp [intOf]; omega
      · clear HMr HWr HSN HD
        go_wp2
        go_ret
        exact ⟨by first | rfl | simp, HBr.out⟩
end Go.Proofs.Ytodenkamlbihnaa
