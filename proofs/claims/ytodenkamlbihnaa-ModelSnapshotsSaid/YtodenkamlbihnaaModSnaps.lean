/-
  ModelSnapshots answers yes for every list of steps. Condition: none beside the form's own reach.
-/
import Derived.Test.YtodenkamlbihnaaModAwake
import Derived.Test.YtodenkamlbihnaaModOpens
import Derived.Test.YtodenkamlbihnaaModSnaPl
import Derived.Test.YtodenkamlbihnaaInUp
import Derived.Deep.Cut
namespace Go.Proofs.Ytodenkamlbihnaa
open Go.RowKit Go.Deep Plain PlainE
set_option linter.unusedVariables false

set_option maxRecDepth 100000 in
set_option maxHeartbeats 8000000 in
theorem lawModelSnapshots (w : World) (a : Option Addr) (c : Nat) (ys : List Stp) (n : Nat) (hn : ys.length = n) (hm : n ≤ maxLen) (hS : Stps w a ys) :
    Calls Try.prog 4 #[.slice a n c] w fun e w' => e = .returned (.bool true) ∧ Below w.heap.size w w' := by
  unfold maxLen at hm
  have HST := Lib.hid hS
  have HN := Lib.hid hn
  clear hS hn
  go_enter Try.func4, Try.ntmps4
  go_wp2_with fail
  refine (mnew_any _).mono ?_; rintro e w1 ⟨p, rfl, hM1, hB1⟩
  have HM1 := Lib.hid hM1
  have HB1 := Lib.hid hB1
  clear hM1 hB1
  go_wp2_with fail
  refine (awake_any _).mono ?_; rintro e w2 ⟨rfl, hB2⟩
  have HM2 := Lib.hid (HM1.out.below hB2 (Nat.le_refl _))
  have HZ2 := Lib.hid hB2.size
  have HB2 := Lib.hid (HB1.out.trans (hB2.mono HB1.out.size))
  clear hB2 HB1
  by_cases h40 : 30 < n
  · have h41 : ((n : Int) ≤ 30) = False := by simp; omega
    go_wp2_with fail
    refine (awake_any _).mono ?_; rintro e w3 ⟨rfl, hB3⟩
    have HB3 := Lib.hid (HB2.out.trans (hB3.mono HB2.out.size))
    clear hB3
    go_wp2
    go_ret
    exact ⟨by first | rfl | simp, HB3.out⟩
  · have h41 : ¬ (30 : Int) < (n : Int) := by omega
    go_wp2_with fail
    obtain ⟨w3, hw3⟩ : ∃ w3, w2.alloc (.cells #[.int .i64 0, .int .i64 0, .int .i64 0, .int .i64 0, .int .i64 0, .int .i64 0] 48) = w3 := ⟨_, rfl⟩
    have hbl : Blk w3 w2.heap.size 48 (cellsO (fun _ => none)) := hw3 ▸ Blk.new w2 (cellsO (fun _ => none)) _
    have hbz := (Below.refl w2.heap.size w2).alloc (Nat.le_refl _) (.cells #[.int .i64 0, .int .i64 0, .int .i64 0, .int .i64 0, .int .i64 0, .int .i64 0] 48)
    rw [hw3] at hbz
    have HM3b := Lib.hid (HM2.out.below hbz (Nat.le_refl _))
    have HB3b := Lib.hid (HB2.out.trans (hbz.mono HB2.out.size))
    have HRB := Lib.hid HB2.out.size
    have HN0 := Lib.hid (show ¬ (w.heap.size ≤ w2.heap.size ∧ w2.heap.size < w1.heap.size) from fun h => by have := HZ2.out; omega)
    try rw [hw3]
    obtain ⟨ro, hro⟩ : ∃ ro, w2.heap.size = ro := ⟨_, rfl⟩
    rw [hro] at hbl HRB HN0
    try rw [hro]
    have HBL := Lib.hid hbl
    clear hbl hbz hw3 hro HM1 HM2 HB2
    go_loopw [5] (fun i wr => ∃ (k : Nat) (Z : Nat → Prop) (m : Nat) (bs : List (List Wri)) (fl : Nat) (sn : Lit → Option Nat), i = .int .i64 k ∧ k ≤ n ∧ MdS wr p w.heap.size Z m bs fl sn ∧ Blk wr ro 48 (cellsO sn) ∧ ¬ Z ro ∧ SnI sn bs.length ∧ m ≤ 6 * k ∧ bs.length ≤ k ∧ Below w.heap.size w wr) (fun i _ => n - (intOf i).toNat)
    case atStart => exact ⟨0, _, 0, [], 0, _, rfl, Nat.zero_le _, HM3b.out, HBL.out, HN0.out, (fun kl x h => by cases h), Nat.le_refl _, Nat.le_refl _, HB3b.out⟩
    case round =>
      clear HM3b HB3b HBL HN0 HZ2
      obtain ⟨k, Z, m, bs, fl, sn, rfl, hk, hM, hO, hNr, hI, hm6, hbl, hbel⟩ := hrel
      have HMr := Lib.hid hM
      have HOr := Lib.hid hO
      have HN3 := Lib.hid hNr
      have HI3 := Lib.hid hI
      have HBr := Lib.hid hbel
      clear hM hO hNr hI hbel
      by_cases hlt : k < n
      · obtain ⟨y, hy⟩ : ∃ y, ys[k]? = some y := ⟨_, List.getElem?_eq_getElem (by have := HN.out; omega)⟩
        obtain ⟨g, off, eA, hg, hcell⟩ := HST.out.at' (by have := HN.out; omega)
        have HC0 := Lib.hid (hcell k 0 y _ hy rfl)
        have HC1 := Lib.hid (hcell k 1 y _ hy rfl)
        have HC2 := Lib.hid (hcell k 2 y _ hy rfl)
        have HC3 := Lib.hid (hcell k 3 y _ hy rfl)
        have HC4 := Lib.hid (hcell k 4 y _ hy rfl)
        have HMEM := Lib.hid (List.mem_of_getElem? hy)
        have HGLw := Lib.hid hg
        have HL9 := Lib.hid (show bs.length ≤ k ∧ k < 30 ∧ m ≤ 6 * k by omega)
        subst eA
        clear hcell hy hg hm6 hbl
        obtain ⟨tn, htn⟩ : ∃ tn : Nat, y.th % 3 = (tn : Int) := ⟨(y.th % 3).toNat, by rw [Int.toNat_of_nonneg (by omega)]⟩
        obtain ⟨jn, hjn⟩ : ∃ jn : Nat, y.jj % 2 = (jn : Int) := ⟨(y.jj % 2).toNat, by rw [Int.toNat_of_nonneg (by omega)]⟩
        have HTN := Lib.hid htn
        have HJN := Lib.hid hjn
        have ht3 : (tn : Int) < 3 := by omega
        have hj2 : (jn : Int) < 2 := by omega
        clear htn hjn
        go_upto_region 8 with fail
        replace HC0 := Lib.hid ((HBr.out.cell (p := ⟨g, off + k * 5, none⟩) HGLw.out).trans HC0.out)
        replace HC2 := Lib.hid ((HBr.out.cell (p := ⟨g, off + k * 5 + 2, none⟩) HGLw.out).trans HC2.out)
        replace HC3 := Lib.hid ((HBr.out.cell (p := ⟨g, off + k * 5 + 3, none⟩) HGLw.out).trans HC3.out)
        have HGL := Lib.hid (Nat.lt_of_lt_of_le HGLw.out HBr.out.size)
        refine qregion (fun w' => Kept (fun _ => False) wr w') (by kernel_rfl) (by kernel_rfl) ((Kept.refl _ _).drew) ?_
        refine qstep (o := ⟨some 35, _, _, _, _, _⟩) (v := ?_) (by rfl) (fun wq hSw => ?_) ?_
        rotate_left
        · (go_simp; try with_reducible rfl)
        try simp only [Act.put, List.setIfInBounds_toArray, List.set_cons_zero, List.set_cons_succ]
        refine qstep (o := ⟨some 36, _, _, _, _, _⟩) (v := ?_) (by rfl) (fun wq hSw => ?_) ?_
        rotate_left
        · (go_simp; try with_reducible rfl)
        try simp only [Act.put, List.setIfInBounds_toArray, List.set_cons_zero, List.set_cons_succ]
        refine qstep (o := ⟨some 37, _, _, _, _, _⟩) (v := ?_) (by rfl) (fun wq hSw => ?_) ?_
        rotate_left
        · (go_simp; try with_reducible rfl)
        try simp only [Act.put, List.setIfInBounds_toArray, List.set_cons_zero, List.set_cons_succ]
        refine qstep (o := ⟨some 38, _, _, _, _, _⟩) (v := ?_) (by rfl) (fun wq hSw => ?_) ?_
        rotate_left
        · (go_simp; try with_reducible rfl)
        try simp only [Act.put, List.setIfInBounds_toArray, List.set_cons_zero, List.set_cons_succ]
        refine qstep (o := ⟨some 39, _, _, _, _, _⟩) (v := ?_) (by rfl) (fun wq hSw => ?_) ?_
        rotate_left
        · (have s2 := (hSw.cell (p := ⟨g, off + k * 5 + 2, none⟩) HGL.out (fun h => h)).trans HC2.out; have s3 := (hSw.cell (p := ⟨g, off + k * 5 + 3, none⟩) HGL.out (fun h => h)).trans HC3.out; go_simp; try with_reducible rfl)
        try simp only [Act.put, List.setIfInBounds_toArray, List.set_cons_zero, List.set_cons_succ]
        refine qcall (o := ⟨some 40, _, _, _, _, _⟩) (v := .int .i64 (tn : Int)) (by rfl) (fun wq hSw => ?_) (fun wq hSw => Calls.mono ((HTN.out ▸ mod_any y.th 3 wq (by omega) (by omega))) ?_) ?_
        · (go_simp; try with_reducible rfl)
        · rintro e w9 ⟨rfl, rfl⟩; exact ⟨rfl, hSw⟩
        try simp only [Act.put, List.setIfInBounds_toArray, List.set_cons_zero, List.set_cons_succ]
        refine qstep (o := ⟨some 41, _, _, _, _, _⟩) (v := ?_) (by rfl) (fun wq hSw => ?_) ?_
        rotate_left
        · (go_simp; try with_reducible rfl)
        try simp only [Act.put, List.setIfInBounds_toArray, List.set_cons_zero, List.set_cons_succ]
        refine qstep (o := ⟨some 42, _, _, _, _, _⟩) (v := ?_) (by rfl) (fun wq hSw => ?_) ?_
        rotate_left
        · (go_simp; try with_reducible rfl)
        try simp only [Act.put, List.setIfInBounds_toArray, List.set_cons_zero, List.set_cons_succ]
        refine qstep (o := ⟨some 43, _, _, _, _, _⟩) (v := ?_) (by rfl) (fun wq hSw => ?_) ?_
        rotate_left
        · (go_simp; try with_reducible rfl)
        try simp only [Act.put, List.setIfInBounds_toArray, List.set_cons_zero, List.set_cons_succ]
        refine qstep (o := ⟨some 44, _, _, _, _, _⟩) (v := ?_) (by rfl) (fun wq hSw => ?_) ?_
        rotate_left
        · (go_simp; try with_reducible rfl)
        try simp only [Act.put, List.setIfInBounds_toArray, List.set_cons_zero, List.set_cons_succ]
        refine qstep (o := ⟨some 45, _, _, _, _, _⟩) (v := ?_) (by rfl) (fun wq hSw => ?_) ?_
        rotate_left
        · (have s2 := (hSw.cell (p := ⟨g, off + k * 5 + 2, none⟩) HGL.out (fun h => h)).trans HC2.out; have s3 := (hSw.cell (p := ⟨g, off + k * 5 + 3, none⟩) HGL.out (fun h => h)).trans HC3.out; go_simp; try with_reducible rfl)
        try simp only [Act.put, List.setIfInBounds_toArray, List.set_cons_zero, List.set_cons_succ]
        refine qcall (o := ⟨some 46, _, _, _, _, _⟩) (v := .int .i64 (jn : Int)) (by rfl) (fun wq hSw => ?_) (fun wq hSw => Calls.mono ((HJN.out ▸ mod_any y.jj 2 wq (by omega) (by omega))) ?_) ?_
        · (go_simp; try with_reducible rfl)
        · rintro e w9 ⟨rfl, rfl⟩; exact ⟨rfl, hSw⟩
        try simp only [Act.put, List.setIfInBounds_toArray, List.set_cons_zero, List.set_cons_succ]
        refine qstep (o := ⟨some 6, _, _, _, _, _⟩) (v := ?_) (by rfl) (fun wq hSw => ?_) ?_
        rotate_left
        · (go_simp; try with_reducible rfl)
        try simp only [Act.put, List.setIfInBounds_toArray, List.set_cons_zero, List.set_cons_succ]
        refine qstep (o := ⟨some 7, _, _, _, _, _⟩) (v := ?_) (by rfl) (fun wq hSw => ?_) ?_
        rotate_left
        · (go_simp; try with_reducible rfl)
        try simp only [Act.put, List.setIfInBounds_toArray, List.set_cons_zero, List.set_cons_succ]
        refine wpQuiet_nil ?_
        intro wz hHeld
        have HM3 := Lib.hid (HMr.out.keep hHeld (fun _ _ h => h))
        have HO3 := Lib.hid (hHeld.blk HOr.out (fun h => h))
        have HB3 := Lib.hid (HBr.out.trans (hHeld.below HBr.out.size (fun i h => h.elim)))
        have c0 := (hHeld.cell (p := ⟨g, off + k * 5, none⟩) HGL.out (fun h => h)).trans HC0.out
        clear hHeld HC2 HC3 HC0 HGL HMr HBr HOr
        go_wp2_with fail
        refine (mod_any y.kind 5 _ (by omega) (by omega)).mono ?_; rintro e w9 ⟨rfl, rfl⟩
        obtain ⟨qq, hq⟩ : ∃ q, y.kind % 5 = q := ⟨_, rfl⟩
        rw [hq]
        have hq5 : 0 ≤ qq ∧ qq < 5 := by omega
        clear hq c0
        by_cases hq2 : qq = 2
        · subst hq2
          have ewT : IntKind.i64.wrap (bs.length : Int) = (bs.length : Int) := by rw [IntKind.wrap_i64]; have := HL9.out; omega
          have ewT1 : IntKind.i64.wrap ((bs.length : Int) + 1) = (bs.length : Int) + 1 := by rw [IntKind.wrap_i64]; have := HL9.out; omega
          go_upto_region 12 with fail
          refine region_E 10 (fun w' => Kept Z wz w') (by kernel_rfl) ?_ (fun hHeld => ?_)
          · exact ((Kept.refl (fun _ => False) _).drew).mono (fun _ h => h.elim)
          have HW := Lib.hid ((Kept.refl (fun _ => False) wz).drew)
          generalize wz.drew = G at *
          refine anyU_take (i := 0) (oi := ⟨some 63, _, _, _, _, _⟩) (v := ?_) rfl (by kernel_rfl) (by kernel_rfl) (by kernel_rfl) 11 (by kernel_rfl) (by kernel_rfl) (fun _ _ _ h => h) (Or.inl ⟨by rfl, ?_⟩) hHeld ?_
          rotate_left
          · (intro wq hSw; go_simp; try with_reducible rfl)
          try simp only [Act.put, List.setIfInBounds_toArray, List.set_cons_zero, List.set_cons_succ]
          refine anyU_take (i := 1) (oi := ⟨some 64, _, _, _, _, _⟩) (v := ?_) rfl (by kernel_rfl) (by kernel_rfl) (by kernel_rfl) 11 (by kernel_rfl) (by kernel_rfl) (fun _ _ _ h => h) (Or.inl ⟨by rfl, ?_⟩) hHeld ?_
          rotate_left
          · (intro wq hSw; go_simp; try with_reducible rfl)
          try simp only [Act.put, List.setIfInBounds_toArray, List.set_cons_zero, List.set_cons_succ]
          refine anyU_take (i := 2) (oi := ⟨some 65, _, _, _, _, _⟩) (v := ?_) rfl (by kernel_rfl) (by kernel_rfl) (by kernel_rfl) 11 (by kernel_rfl) (by kernel_rfl) (fun _ _ _ h => h) (Or.inl ⟨by rfl, ?_⟩) hHeld ?_
          rotate_left
          · (intro wq hSw; go_simp; try with_reducible rfl)
          try simp only [Act.put, List.setIfInBounds_toArray, List.set_cons_zero, List.set_cons_succ]
          refine anyU_take (i := 3) (oi := ⟨some 66, _, _, _, _, _⟩) (v := ?_) rfl (by kernel_rfl) (by kernel_rfl) (by kernel_rfl) 11 (by kernel_rfl) (by kernel_rfl) (fun _ _ _ h => h) (Or.inl ⟨by rfl, ?_⟩) hHeld ?_
          rotate_left
          · (intro wq hSw; go_simp; try with_reducible rfl)
          try simp only [Act.put, List.setIfInBounds_toArray, List.set_cons_zero, List.set_cons_succ]
          refine anyU_take (i := 4) (oi := ⟨some 67, _, _, _, _, _⟩) (v := ?_) rfl (by kernel_rfl) (by kernel_rfl) (by kernel_rfl) 11 (by kernel_rfl) (by kernel_rfl) (fun _ _ _ h => h) (Or.inl ⟨by rfl, ?_⟩) hHeld ?_
          rotate_left
          · (intro wq hSw; go_simp; try with_reducible rfl)
          try simp only [Act.put, List.setIfInBounds_toArray, List.set_cons_zero, List.set_cons_succ]
          refine anyU_take (i := 8) (oi := ⟨some 71, _, _, _, _, _⟩) (v := .pointer (some ⟨ro, tn * 2, none⟩)) rfl (by kernel_rfl) (by kernel_rfl) (by kernel_rfl) 11 (by kernel_rfl) (by kernel_rfl) (fun _ _ _ h => h) (Or.inl ⟨by rfl, ?_⟩) hHeld ?_
          · (intro wq hSw; go_simp; try first | (with_reducible rfl) | (simp; omega) | (intros; omega) | simp [*])
          try simp only [Act.put, List.setIfInBounds_toArray, List.set_cons_zero, List.set_cons_succ]
          refine anyE_ready (i := 5) (o := ⟨some 68, _, _, _, _, _⟩) (by kernel_rfl) rfl (fun KK hK => ?_)
          go_simp
          go_at_call 11
          refine (mopen_any _ (HM3.out.keep HW.out (fun _ _ h => h)) (by have := HL9.out; omega) (by have := HL9.out; omega) (tn : Int) (jn : Int) (by omega) (by omega)).mono ?_; rintro e G1 ⟨rfl, hM4, hK4⟩
          have HK1 := Lib.hid ((HW.out.mono (T := Z) (fun _ h => h.elim)).trans hK4 (fun _ _ h => h))
          have HM4 := Lib.hid hM4
          have HO1 := Lib.hid (HK1.out.blk HO3.out HN3.out)
          have x0 := HO1.out.cell (i := tn * 2 + jn) (cellsO_at sn (by omega))
          have z0 := HO1.out.frozen (tn * 2 + jn)
          clear hM4 hK4
          refine hK.out _ _ (fun _ => ?_) (fun hHeld2 => ?_)
          · exact HK1.out
          clear hK KK hHeld
          have hHeld := hHeld2 (by decide)
          clear hHeld2
          try simp only [Act.put, List.setIfInBounds_toArray, List.set_cons_zero, List.set_cons_succ]
          refine anyU_take (i := 6) (oi := ⟨some 69, _, _, _, _, _⟩) (v := .int .i64 (bs.length : Int)) rfl (by kernel_rfl) (by kernel_rfl) (by kernel_rfl) 11 (by kernel_rfl) (by kernel_rfl) (fun _ _ _ h => h) (Or.inl ⟨by rfl, ?_⟩) hHeld ?_
          · (intro wq hSw; go_simp; try first | (with_reducible rfl) | (simp; omega) | (intros; omega) | simp [*])
          try simp only [Act.put, List.setIfInBounds_toArray, List.set_cons_zero, List.set_cons_succ]
          refine anyU_take (i := 7) (oi := ⟨some 70, _, _, _, _, _⟩) (v := .int .i64 ((bs.length : Int) + 1)) rfl (by kernel_rfl) (by kernel_rfl) (by kernel_rfl) 11 (by kernel_rfl) (by kernel_rfl) (fun _ _ _ h => h) (Or.inl ⟨by rfl, ?_⟩) hHeld ?_
          · (intro wq hSw; go_simp; try first | (with_reducible rfl) | (simp; omega) | (intros; omega) | simp [*])
          try simp only [Act.put, List.setIfInBounds_toArray, List.set_cons_zero, List.set_cons_succ]
          refine anyU_take (i := 9) (oi := ⟨some 72, _, _, _, _, _⟩) (v := .pointer (some ⟨ro, tn * 2 + jn, none⟩)) rfl (by kernel_rfl) (by kernel_rfl) (by kernel_rfl) 11 (by kernel_rfl) (by kernel_rfl) (fun _ _ _ h => h) (Or.inl ⟨by rfl, ?_⟩) hHeld ?_
          · (intro wq hSw; go_simp; try first | (with_reducible rfl) | (simp; omega) | (intros; omega) | simp [*])
          try simp only [Act.put, List.setIfInBounds_toArray, List.set_cons_zero, List.set_cons_succ]
          refine anyE_ready (i := 10) (o := ⟨none, _, _, _, _, _⟩) (by kernel_rfl) rfl (fun KK hK => ?_)
          go_simp
          refine hK.out _ _ (fun h => absurd rfl h) (fun _ => ?_)
          clear hK KK hHeld
          refine anyE_done (by kernel_rfl) ?_ _
          clear x0 z0
          obtain ⟨sn2, hsn2⟩ : ∃ s, updL sn (litI (tn * 2 + jn)) (some bs.length) = s := ⟨_, rfl⟩
          obtain ⟨W5, hW5⟩ : ∃ W5, G1.setCell ⟨ro, tn * 2 + jn, none⟩ (.int .i64 ((bs.length : Int) + 1)) = W5 := ⟨_, rfl⟩
          have hk5 : Kept (fun i => i = ro) G1 W5 := hW5 ▸ (Kept.refl (fun i => i = ro) G1).setCell (a := ⟨ro, tn * 2 + jn, none⟩) (fun _ => rfl) _
          have hm5 := HM4.out.keep hk5 (fun i hi h => HN3.out (h ▸ hi))
          rw [litI_of (by omega) (by omega), hsn2] at hm5
          have ho5 : Blk W5 ro 48 (cellsO sn2) := by
            rw [← hsn2, cellsO_set sn (show tn * 2 + jn < 6 by omega), ← hW5]
            exact HO1.out.set (tn * 2 + jn) _
          have HMz := Lib.hid hm5
          have HOz := Lib.hid ho5
          have HIz0 := Lib.hid (show SnI sn2 bs.length from hsn2 ▸ HI3.out.put (show tn * 2 + jn < 6 by omega))
          have HNz := HN3
          have HBz := Lib.hid (HB3.out.trans ((HK1.out.below HB3.out.size (fun i hi => (HM3.out.lt hi).1)).trans (hk5.below (Nat.le_trans HB3.out.size HK1.out.size) (fun i hi => by subst hi; exact HRB.out))))
          obtain ⟨T, hT⟩ : ∃ T, bs.length = T := ⟨_, rfl⟩
          have HTe := Lib.hid hT
          have HIz := Lib.hid (hT ▸ HIz0.out)
          try rw [hW5]
          clear hsn2 hW5 hk5 hm5 ho5 HIz0 HM4 HO1 HK1 hT ewT ewT1
          have hT40 : T ≤ 31 := by have := HTe.out; have := HL9.out; simp at *; omega
          have HROz := Lib.hid HOz.out.lt
          go_wp2_with fail
          refine (mtime_any _ HMz.out).mono ?_; rintro e w7 ⟨rfl, rfl⟩
          rw [HTe.out]
          go_wp2_with fail
          go_loopw [8, 9, 10] (fun wv lv xv wr => ∃ (x l q : Nat), xv = .int .u64 (x : Int) ∧ x ≤ T + 1 ∧ lv = .int .u64 (l : Int) ∧ LeastI sn2 T x 0 l ∧ wr.ownsRow W5.heap.size 23 1 wv q (words (wantL sn2 x 0)) ∧ q ≤ 6 * x ∧ Below W5.heap.size W5 wr) (fun _ _ xv _ => T + 1 - (intOf xv).toNat)
          case atStart => exact ⟨0, T, 0, rfl, by omega, rfl, ⟨Nat.le_refl _, fun a y ha hy hc => by omega, .inl rfl⟩, World.ownsRow_nil _ _ _ _, by omega, Below.refl _ _⟩
          case round =>
            obtain ⟨x, l, q, rfl, hx, rfl, hle, hrow, hq, hbel⟩ := hrel
            have HMr := Lib.hid (HMz.out.below hbel (Nat.le_refl _))
            have HLE := Lib.hid hle
            have HR := Lib.hid hrow
            have HBl := Lib.hid hbel
            have hsw := hbel.size
            have exw : IntKind.i64.wrap (x : Int) = (x : Int) := by rw [IntKind.wrap_i64]; omega
            have exu : IntKind.u64.wrap ((x : Int) + 1) = (x : Int) + 1 := by rw [IntKind.wrap_u64]; omega
            clear hle hrow hbel
            by_cases hxT : x ≤ T
            · have hd1 : decide ((x : Int) ≤ (T : Int)) = true := by simp [hxT]
              go_wp2_with fail
              refine (mtime_any _ HMr.out).mono ?_; rintro e w8 ⟨rfl, rfl⟩
              rw [HTe.out]
              go_wp2_with fail
              go_loopw [8, 9, 11] (fun wv lv iv wr2 => ∃ (i l q : Nat), iv = .int .i64 (i : Int) ∧ i ≤ 6 ∧ lv = .int .u64 (l : Int) ∧ LeastI sn2 T x i l ∧ wr2.ownsRow W5.heap.size 23 1 wv q (words (wantL sn2 x i)) ∧ q ≤ 6 * x + i ∧ Below W5.heap.size W5 wr2) (fun _ _ iv _ => 6 - (intOf iv).toNat)
              case atStart => exact ⟨0, l, q, rfl, by omega, rfl, HLE.out, HR.out, by omega, HBl.out⟩
              case round =>
                clear HLE HR HBl HMr hsw hq
                obtain ⟨i, l2, q2, rfl, hi, rfl, hle, hrow, hq, hbel⟩ := hrel
                have HLE := Lib.hid hle
                have HR := Lib.hid hrow
                have HBl := Lib.hid hbel
                have hsw := hbel.size
                clear hle hrow hbel
                by_cases hi6 : i < 6
                · obtain ⟨ia, hia⟩ : ∃ ia, i / 2 = ia := ⟨_, rfl⟩
                  obtain ⟨ib, hib⟩ : ∃ ib, i % 2 = ib := ⟨_, rfl⟩
                  have e1 : (i : Int).tdiv 2 = (ia : Int) := by rw [← hia]; rfl
                  have e2 : (i : Int).tmod 2 = (ib : Int) := by rw [← hib]; rfl
                  have e1b : (i : Int) / 2 = (ia : Int) := by omega
                  have e2b : (i : Int) % 2 = (ib : Int) := by omega
                  have e3 : i = ia * 2 + ib := by omega
                  have ha3 : (ia : Int) < 3 := by omega
                  have hb2 : (ib : Int) < 2 := by omega
                  have hwa : IntKind.i64.wrap (ia : Int) = (ia : Int) := by rw [IntKind.wrap_i64]; omega
                  have hwb : IntKind.i64.wrap (ib : Int) = (ib : Int) := by rw [IntKind.wrap_i64]; omega
                  have hcell : ∀ v : Nat, encO (sn2 (litI i)) = v → wr.cell? ⟨ro, ia * 2 + ib, none⟩ = some (.int .i64 (v : Int)) := fun v hv => by
                    have h1 := HOz.out.cell (i := i) (cellsO_at sn2 hi6)
                    rw [hv, e3] at h1
                    exact (HBl.out.cell (p := ⟨ro, ia * 2 + ib, none⟩) HROz.out).trans h1
                  by_cases hh : sn2 (litI i) = some x
                  · have d0 := hcell (x + 1) (by rw [hh]; rfl)
                    have HWN := Lib.hid (wantL_hit hh)
                    have HLN := Lib.hid (HLE.out.hit hi6 hh)
                    have HE3 := Lib.hid e3
                    clear hcell hh e3 hia hib
                    go_wp2_with (first | (at_builtin; go_must (refine wpList_appw rfl (.tmp 115) (.tmp 117) rfl W5.heap.size _ q2 (wantL sn2 x i) rfl (HR.out.alloc _) wr.heap.size 0 x rfl ((Blk.new _ [.int .u64 (x : Int)] _).cell (i := 0) rfl) (by omega) (by rw [nblk_alloc]; omega) ?_)) | fail)
                    intro v55 w55 hown5 hB5
                    have HR5 := Lib.hid (show w55.ownsRow W5.heap.size 23 1 v55 (q2 + 1) (words (wantL sn2 x (i + 1))) from by rw [HWN.out]; exact hown5)
                    have HB5 := Lib.hid ((HBl.out.alloc hsw (.cells #[.int .u64 (x : Int)] 23)).trans hB5)
                    clear hown5 hB5 d0
                    by_cases hm : (l2 : Int) ≤ (x : Int)
                    · go_wp2
                      go_roundw
                      case rel => exact ⟨i + 1, l2, q2 + 1, by go_num, by omega, by first | rfl | (rw [show min (l2 : Int) (x : Int) = (l2 : Int) by omega]), by have := HLN.out; rwa [show min l2 x = l2 by omega] at this, HR5.out, by omega, HB5.out⟩
                      case measure => simp [intOf]; omega
                    · go_wp2
                      go_roundw
                      case rel => exact ⟨i + 1, x, q2 + 1, by go_num, by omega, by first | rfl | (rw [show min (l2 : Int) (x : Int) = (x : Int) by omega]), by have := HLN.out; rwa [show min l2 x = x by omega] at this, HR5.out, by omega, HB5.out⟩
                      case measure => simp [intOf]; omega
                  · obtain ⟨v, hv⟩ : ∃ v, encO (sn2 (litI i)) = v := ⟨_, rfl⟩
                    have d0 := hcell v hv
                    have hne : ((v : Int) == (x : Int) + 1) = false := by
                      simp only [beq_eq_false_iff_ne, ne_eq]
                      intro e
                      have e9 : v = x + 1 := by omega
                      rw [e9] at hv
                      cases hs : sn2 (litI i) with
                      | none => rw [hs] at hv; cases hv
                      | some y => rw [hs] at hv; exact hh (by rw [hs]; have : y + 1 = x + 1 := hv; rw [show y = x by omega])
                    have HWN := Lib.hid (wantL_no hh)
                    have HLN := Lib.hid (HLE.out.no hh)
                    have HE3 := Lib.hid e3
                    clear hcell hh e3 hia hib hv
                    go_wp2
                    go_roundw
                    case rel => exact ⟨i + 1, l2, q2, by go_num, by omega, rfl, HLN.out, by rw [HWN.out]; exact HR.out, by omega, HBl.out⟩
                    case measure => simp [intOf]; omega
                · obtain rfl : i = 6 := by omega
                  have HWN := Lib.hid (wantL_nx sn2 x)
                  go_wp2
                  go_roundw
                  case rel => exact ⟨x + 1, l2, q2, by go_num, by omega, rfl, HLE.out.nx, by rw [HWN.out]; exact HR.out, by omega, HBl.out⟩
                  case measure => simp [intOf]; omega
            · obtain rfl : x = T + 1 := by omega
              have hd1 : decide (((T + 1 : Nat) : Int) ≤ (T : Int)) = false := by simp; omega
              obtain ⟨Aw, cw, hwv, hlw, hRw⟩ := Rw.own HR.out
              subst hwv
              have HLW := Lib.hid hlw
              have HRW := Lib.hid hRw
              have HLF := Lib.hid (HLE.out.fin HIz.out)
              clear hlw hRw HR HLE
              go_wp2_with fail
              refine (mtime_any _ HMr.out).mono ?_; rintro e w8 ⟨rfl, rfl⟩
              rw [HTe.out]
              go_wp2_with fail
              refine (snapshots_any _ HMr.out (by have := HL9.out; omega) (fun xs ha => by have h1 := (ha.perm HIz.out).length_eq; have h2 := belowI_len sn2 (T + 1) 6; omega)).mono ?_; rintro e w8 ⟨A8, r8, c8, xs, rfl, hA8, hl8, hR8, hB8⟩
              have hw := want_sorted HIz.out hA8
              have hrq : r8 = q := by rw [← hl8, ← HLW.out, ← hw, List.length_mergeSort]
              subst hrq
              rw [hw] at hR8
              have HR8 := Lib.hid hR8
              have HRW8 := Lib.hid (HRW.out.below hB8 (Nat.le_refl _))
              have HM8 := Lib.hid (HMr.out.below hB8 (Nat.le_refl _))
              have HB8 := Lib.hid (HBl.out.trans (hB8.mono hsw))
              clear hA8 hl8 hR8 hB8 hw HMr HBl
              go_wp2_with fail
              refine (sameU_any A8 Aw c8 cw (wantL sn2 (T + 1) 0) _ r8 HLW.out (by omega) HR8.out HRW8.out).mono ?_; rintro e w9 ⟨rfl, hB9⟩
              have HM9 := Lib.hid (HM8.out.below hB9 (Nat.le_refl _))
              have HB9 := Lib.hid (HB8.out.trans (hB9.mono HB8.out.size))
              clear hB9
              go_wp2_with fail
              refine (mwater_any _ HM9.out).mono ?_; rintro e w10 ⟨x10, rfl, hx10, hB10⟩
              rw [HTe.out] at hx10
              obtain rfl : x10 = l := hx10.uniq HLF.out
              have HM10 := Lib.hid (HM9.out.below hB10 (Nat.le_refl _))
              have HB10 := Lib.hid (HB9.out.trans (hB10.mono HB9.out.size))
              have HO10 := Lib.hid (HB10.out.block ro HROz.out)
              clear hB10 hx10
              go_wp2
              go_roundw
              case rel => exact ⟨k + 1, _, _, _, _, _, by go_num, by omega, HM10.out, HOz.out.of HO10.out, HNz.out, by rw [HTe.out]; exact HIz.out, by have := HL9.out; omega, by have := HTe.out; have := HL9.out; simp at *; omega, HBz.out.trans (HB10.out.mono HBz.out.size)⟩
              case measure => simp [intOf]; omega
        · have hn2 : (qq == 2) = false := by simp [hq2]
          by_cases hq3 : qq = 3
          · subst hq3
            go_wp2_with fail
            refine (mrelease_any _ HM3.out (tn : Int) (jn : Int) (by omega) (by omega)).mono ?_; rintro e w4 ⟨rfl, hM4, hK4⟩
            have HM4 := Lib.hid hM4
            have HK1 := Lib.hid hK4
            have HO1 := Lib.hid (hK4.blk HO3.out HN3.out)
            have x0 := HO1.out.cell (i := tn * 2 + jn) (cellsO_at sn (by omega))
            have z0 := HO1.out.frozen (tn * 2 + jn)
            obtain ⟨sn2, hsn2⟩ : ∃ s, updL sn (litI (tn * 2 + jn)) none = s := ⟨_, rfl⟩
            obtain ⟨W5, hW5⟩ : ∃ W5, w4.setCell ⟨ro, tn * 2 + jn, none⟩ (.int .i64 0) = W5 := ⟨_, rfl⟩
            have hk5 : Kept (fun i => i = ro) w4 W5 := hW5 ▸ (Kept.refl (fun i => i = ro) w4).setCell (a := ⟨ro, tn * 2 + jn, none⟩) (fun _ => rfl) _
            have hm5 := HM4.out.keep hk5 (fun i hi h => HN3.out (h ▸ hi))
            rw [litI_of (by omega) (by omega), hsn2] at hm5
            have ho5 : Blk W5 ro 48 (cellsO sn2) := by
              rw [← hsn2, cellsO_set sn (show tn * 2 + jn < 6 by omega), ← hW5]
              exact HO1.out.set (tn * 2 + jn) _
            have HMz := Lib.hid hm5
            have HOz := Lib.hid ho5
            have HIz0 := Lib.hid (show SnI sn2 bs.length from hsn2 ▸ HI3.out.del _)
            have HNz := HN3
            have HBz := Lib.hid (HB3.out.trans ((HK1.out.below HB3.out.size (fun i hi => (HM3.out.lt hi).1)).trans (hk5.below (Nat.le_trans HB3.out.size HK1.out.size) (fun i hi => by subst hi; exact HRB.out))))
            obtain ⟨T, hT⟩ : ∃ T, bs.length = T := ⟨_, rfl⟩
            have HTe := Lib.hid hT
            have HIz := Lib.hid (hT ▸ HIz0.out)
            have HW5 := Lib.hid hW5
            clear hM4 hK4 hsn2 hW5 hk5 hm5 ho5 HIz0 HM4 HO1 HK1 hT
            go_upto_region 18 with fail
            rw [HW5.out]
            clear x0 z0
            have hT40 : T ≤ 31 := by have := HTe.out; have := HL9.out; simp at *; omega
            have HROz := Lib.hid HOz.out.lt
            go_wp2_with fail
            refine (mtime_any _ HMz.out).mono ?_; rintro e w7 ⟨rfl, rfl⟩
            rw [HTe.out]
            go_wp2_with fail
            go_loopw [8, 9, 10] (fun wv lv xv wr => ∃ (x l q : Nat), xv = .int .u64 (x : Int) ∧ x ≤ T + 1 ∧ lv = .int .u64 (l : Int) ∧ LeastI sn2 T x 0 l ∧ wr.ownsRow W5.heap.size 23 1 wv q (words (wantL sn2 x 0)) ∧ q ≤ 6 * x ∧ Below W5.heap.size W5 wr) (fun _ _ xv _ => T + 1 - (intOf xv).toNat)
            case atStart => exact ⟨0, T, 0, rfl, by omega, rfl, ⟨Nat.le_refl _, fun a y ha hy hc => by omega, .inl rfl⟩, World.ownsRow_nil _ _ _ _, by omega, Below.refl _ _⟩
            case round =>
              obtain ⟨x, l, q, rfl, hx, rfl, hle, hrow, hq, hbel⟩ := hrel
              have HMr := Lib.hid (HMz.out.below hbel (Nat.le_refl _))
              have HLE := Lib.hid hle
              have HR := Lib.hid hrow
              have HBl := Lib.hid hbel
              have hsw := hbel.size
              have exw : IntKind.i64.wrap (x : Int) = (x : Int) := by rw [IntKind.wrap_i64]; omega
              have exu : IntKind.u64.wrap ((x : Int) + 1) = (x : Int) + 1 := by rw [IntKind.wrap_u64]; omega
              clear hle hrow hbel
              by_cases hxT : x ≤ T
              · have hd1 : decide ((x : Int) ≤ (T : Int)) = true := by simp [hxT]
                go_wp2_with fail
                refine (mtime_any _ HMr.out).mono ?_; rintro e w8 ⟨rfl, rfl⟩
                rw [HTe.out]
                go_wp2_with fail
                go_loopw [8, 9, 11] (fun wv lv iv wr2 => ∃ (i l q : Nat), iv = .int .i64 (i : Int) ∧ i ≤ 6 ∧ lv = .int .u64 (l : Int) ∧ LeastI sn2 T x i l ∧ wr2.ownsRow W5.heap.size 23 1 wv q (words (wantL sn2 x i)) ∧ q ≤ 6 * x + i ∧ Below W5.heap.size W5 wr2) (fun _ _ iv _ => 6 - (intOf iv).toNat)
                case atStart => exact ⟨0, l, q, rfl, by omega, rfl, HLE.out, HR.out, by omega, HBl.out⟩
                case round =>
                  clear HLE HR HBl HMr hsw hq
                  obtain ⟨i, l2, q2, rfl, hi, rfl, hle, hrow, hq, hbel⟩ := hrel
                  have HLE := Lib.hid hle
                  have HR := Lib.hid hrow
                  have HBl := Lib.hid hbel
                  have hsw := hbel.size
                  clear hle hrow hbel
                  by_cases hi6 : i < 6
                  · obtain ⟨ia, hia⟩ : ∃ ia, i / 2 = ia := ⟨_, rfl⟩
                    obtain ⟨ib, hib⟩ : ∃ ib, i % 2 = ib := ⟨_, rfl⟩
                    have e1 : (i : Int).tdiv 2 = (ia : Int) := by rw [← hia]; rfl
                    have e2 : (i : Int).tmod 2 = (ib : Int) := by rw [← hib]; rfl
                    have e1b : (i : Int) / 2 = (ia : Int) := by omega
                    have e2b : (i : Int) % 2 = (ib : Int) := by omega
                    have e3 : i = ia * 2 + ib := by omega
                    have ha3 : (ia : Int) < 3 := by omega
                    have hb2 : (ib : Int) < 2 := by omega
                    have hwa : IntKind.i64.wrap (ia : Int) = (ia : Int) := by rw [IntKind.wrap_i64]; omega
                    have hwb : IntKind.i64.wrap (ib : Int) = (ib : Int) := by rw [IntKind.wrap_i64]; omega
                    have hcell : ∀ v : Nat, encO (sn2 (litI i)) = v → wr.cell? ⟨ro, ia * 2 + ib, none⟩ = some (.int .i64 (v : Int)) := fun v hv => by
                      have h1 := HOz.out.cell (i := i) (cellsO_at sn2 hi6)
                      rw [hv, e3] at h1
                      exact (HBl.out.cell (p := ⟨ro, ia * 2 + ib, none⟩) HROz.out).trans h1
                    by_cases hh : sn2 (litI i) = some x
                    · have d0 := hcell (x + 1) (by rw [hh]; rfl)
                      have HWN := Lib.hid (wantL_hit hh)
                      have HLN := Lib.hid (HLE.out.hit hi6 hh)
                      have HE3 := Lib.hid e3
                      clear hcell hh e3 hia hib
                      go_wp2_with (first | (at_builtin; go_must (refine wpList_appw rfl (.tmp 115) (.tmp 117) rfl W5.heap.size _ q2 (wantL sn2 x i) rfl (HR.out.alloc _) wr.heap.size 0 x rfl ((Blk.new _ [.int .u64 (x : Int)] _).cell (i := 0) rfl) (by omega) (by rw [nblk_alloc]; omega) ?_)) | fail)
                      intro v55 w55 hown5 hB5
                      have HR5 := Lib.hid (show w55.ownsRow W5.heap.size 23 1 v55 (q2 + 1) (words (wantL sn2 x (i + 1))) from by rw [HWN.out]; exact hown5)
                      have HB5 := Lib.hid ((HBl.out.alloc hsw (.cells #[.int .u64 (x : Int)] 23)).trans hB5)
                      clear hown5 hB5 d0
                      by_cases hm : (l2 : Int) ≤ (x : Int)
                      · go_wp2
                        go_roundw
                        case rel => exact ⟨i + 1, l2, q2 + 1, by go_num, by omega, by first | rfl | (rw [show min (l2 : Int) (x : Int) = (l2 : Int) by omega]), by have := HLN.out; rwa [show min l2 x = l2 by omega] at this, HR5.out, by omega, HB5.out⟩
                        case measure => simp [intOf]; omega
                      · go_wp2
                        go_roundw
                        case rel => exact ⟨i + 1, x, q2 + 1, by go_num, by omega, by first | rfl | (rw [show min (l2 : Int) (x : Int) = (x : Int) by omega]), by have := HLN.out; rwa [show min l2 x = x by omega] at this, HR5.out, by omega, HB5.out⟩
                        case measure => simp [intOf]; omega
                    · obtain ⟨v, hv⟩ : ∃ v, encO (sn2 (litI i)) = v := ⟨_, rfl⟩
                      have d0 := hcell v hv
                      have hne : ((v : Int) == (x : Int) + 1) = false := by
                        simp only [beq_eq_false_iff_ne, ne_eq]
                        intro e
                        have e9 : v = x + 1 := by omega
                        rw [e9] at hv
                        cases hs : sn2 (litI i) with
                        | none => rw [hs] at hv; cases hv
                        | some y => rw [hs] at hv; exact hh (by rw [hs]; have : y + 1 = x + 1 := hv; rw [show y = x by omega])
                      have HWN := Lib.hid (wantL_no hh)
                      have HLN := Lib.hid (HLE.out.no hh)
                      have HE3 := Lib.hid e3
                      clear hcell hh e3 hia hib hv
                      go_wp2
                      go_roundw
                      case rel => exact ⟨i + 1, l2, q2, by go_num, by omega, rfl, HLN.out, by rw [HWN.out]; exact HR.out, by omega, HBl.out⟩
                      case measure => simp [intOf]; omega
                  · obtain rfl : i = 6 := by omega
                    have HWN := Lib.hid (wantL_nx sn2 x)
                    go_wp2
                    go_roundw
                    case rel => exact ⟨x + 1, l2, q2, by go_num, by omega, rfl, HLE.out.nx, by rw [HWN.out]; exact HR.out, by omega, HBl.out⟩
                    case measure => simp [intOf]; omega
              · obtain rfl : x = T + 1 := by omega
                have hd1 : decide (((T + 1 : Nat) : Int) ≤ (T : Int)) = false := by simp; omega
                obtain ⟨Aw, cw, hwv, hlw, hRw⟩ := Rw.own HR.out
                subst hwv
                have HLW := Lib.hid hlw
                have HRW := Lib.hid hRw
                have HLF := Lib.hid (HLE.out.fin HIz.out)
                clear hlw hRw HR HLE
                go_wp2_with fail
                refine (mtime_any _ HMr.out).mono ?_; rintro e w8 ⟨rfl, rfl⟩
                rw [HTe.out]
                go_wp2_with fail
                refine (snapshots_any _ HMr.out (by have := HL9.out; omega) (fun xs ha => by have h1 := (ha.perm HIz.out).length_eq; have h2 := belowI_len sn2 (T + 1) 6; omega)).mono ?_; rintro e w8 ⟨A8, r8, c8, xs, rfl, hA8, hl8, hR8, hB8⟩
                have hw := want_sorted HIz.out hA8
                have hrq : r8 = q := by rw [← hl8, ← HLW.out, ← hw, List.length_mergeSort]
                subst hrq
                rw [hw] at hR8
                have HR8 := Lib.hid hR8
                have HRW8 := Lib.hid (HRW.out.below hB8 (Nat.le_refl _))
                have HM8 := Lib.hid (HMr.out.below hB8 (Nat.le_refl _))
                have HB8 := Lib.hid (HBl.out.trans (hB8.mono hsw))
                clear hA8 hl8 hR8 hB8 hw HMr HBl
                go_wp2_with fail
                refine (sameU_any A8 Aw c8 cw (wantL sn2 (T + 1) 0) _ r8 HLW.out (by omega) HR8.out HRW8.out).mono ?_; rintro e w9 ⟨rfl, hB9⟩
                have HM9 := Lib.hid (HM8.out.below hB9 (Nat.le_refl _))
                have HB9 := Lib.hid (HB8.out.trans (hB9.mono HB8.out.size))
                clear hB9
                go_wp2_with fail
                refine (mwater_any _ HM9.out).mono ?_; rintro e w10 ⟨x10, rfl, hx10, hB10⟩
                rw [HTe.out] at hx10
                obtain rfl : x10 = l := hx10.uniq HLF.out
                have HM10 := Lib.hid (HM9.out.below hB10 (Nat.le_refl _))
                have HB10 := Lib.hid (HB9.out.trans (hB10.mono HB9.out.size))
                have HO10 := Lib.hid (HB10.out.block ro HROz.out)
                clear hB10 hx10
                go_wp2
                go_roundw
                case rel => exact ⟨k + 1, _, _, _, _, _, by go_num, by omega, HM10.out, HOz.out.of HO10.out, HNz.out, by rw [HTe.out]; exact HIz.out, by have := HL9.out; omega, by have := HTe.out; have := HL9.out; simp at *; omega, HBz.out.trans (HB10.out.mono HBz.out.size)⟩
                case measure => simp [intOf]; omega
          · have hn3 : (qq == 3) = false := by simp [hq3]
            by_cases hq4 : qq = 4
            · subst hq4
              have c4 := (HB3.out.cell (p := ⟨g, off + k * 5 + 4, none⟩) HGLw.out).trans HC4.out
              go_wp2_with fail
              refine (mraise_any _ HM3.out y.to).mono ?_; rintro e w4 ⟨x4, hx4, rfl, hM4, hK4⟩
              have HMz := Lib.hid hM4
              have HOz := Lib.hid (hK4.blk HO3.out HN3.out)
              have HNz := HN3
              have HBz := Lib.hid (HB3.out.trans (hK4.below HB3.out.size (fun i hi => (HM3.out.lt hi).1)))
              obtain ⟨T, hT⟩ : ∃ T, bs.length = T := ⟨_, rfl⟩
              have HTe := Lib.hid hT
              have HIz := Lib.hid (hT ▸ HI3.out)
              obtain ⟨sn2, hsn2⟩ : ∃ s, sn = s := ⟨_, rfl⟩
              subst hsn2
              clear hM4 hK4 hx4 c4 hT
              have hT40 : T ≤ 31 := by have := HTe.out; have := HL9.out; simp at *; omega
              have HROz := Lib.hid HOz.out.lt
              go_wp2_with fail
              refine (mtime_any _ HMz.out).mono ?_; rintro e w7 ⟨rfl, rfl⟩
              rw [HTe.out]
              go_wp2_with fail
              go_loopw [8, 9, 10] (fun wv lv xv wr => ∃ (x l q : Nat), xv = .int .u64 (x : Int) ∧ x ≤ T + 1 ∧ lv = .int .u64 (l : Int) ∧ LeastI sn T x 0 l ∧ wr.ownsRow w4.heap.size 23 1 wv q (words (wantL sn x 0)) ∧ q ≤ 6 * x ∧ Below w4.heap.size w4 wr) (fun _ _ xv _ => T + 1 - (intOf xv).toNat)
              case atStart => exact ⟨0, T, 0, rfl, by omega, rfl, ⟨Nat.le_refl _, fun a y ha hy hc => by omega, .inl rfl⟩, World.ownsRow_nil _ _ _ _, by omega, Below.refl _ _⟩
              case round =>
                obtain ⟨x, l, q, rfl, hx, rfl, hle, hrow, hq, hbel⟩ := hrel
                have HMr := Lib.hid (HMz.out.below hbel (Nat.le_refl _))
                have HLE := Lib.hid hle
                have HR := Lib.hid hrow
                have HBl := Lib.hid hbel
                have hsw := hbel.size
                have exw : IntKind.i64.wrap (x : Int) = (x : Int) := by rw [IntKind.wrap_i64]; omega
                have exu : IntKind.u64.wrap ((x : Int) + 1) = (x : Int) + 1 := by rw [IntKind.wrap_u64]; omega
                clear hle hrow hbel
                by_cases hxT : x ≤ T
                · have hd1 : decide ((x : Int) ≤ (T : Int)) = true := by simp [hxT]
                  go_wp2_with fail
                  refine (mtime_any _ HMr.out).mono ?_; rintro e w8 ⟨rfl, rfl⟩
                  rw [HTe.out]
                  go_wp2_with fail
                  go_loopw [8, 9, 11] (fun wv lv iv wr2 => ∃ (i l q : Nat), iv = .int .i64 (i : Int) ∧ i ≤ 6 ∧ lv = .int .u64 (l : Int) ∧ LeastI sn T x i l ∧ wr2.ownsRow w4.heap.size 23 1 wv q (words (wantL sn x i)) ∧ q ≤ 6 * x + i ∧ Below w4.heap.size w4 wr2) (fun _ _ iv _ => 6 - (intOf iv).toNat)
                  case atStart => exact ⟨0, l, q, rfl, by omega, rfl, HLE.out, HR.out, by omega, HBl.out⟩
                  case round =>
                    clear HLE HR HBl HMr hsw hq
                    obtain ⟨i, l2, q2, rfl, hi, rfl, hle, hrow, hq, hbel⟩ := hrel
                    have HLE := Lib.hid hle
                    have HR := Lib.hid hrow
                    have HBl := Lib.hid hbel
                    have hsw := hbel.size
                    clear hle hrow hbel
                    by_cases hi6 : i < 6
                    · obtain ⟨ia, hia⟩ : ∃ ia, i / 2 = ia := ⟨_, rfl⟩
                      obtain ⟨ib, hib⟩ : ∃ ib, i % 2 = ib := ⟨_, rfl⟩
                      have e1 : (i : Int).tdiv 2 = (ia : Int) := by rw [← hia]; rfl
                      have e2 : (i : Int).tmod 2 = (ib : Int) := by rw [← hib]; rfl
                      have e1b : (i : Int) / 2 = (ia : Int) := by omega
                      have e2b : (i : Int) % 2 = (ib : Int) := by omega
                      have e3 : i = ia * 2 + ib := by omega
                      have ha3 : (ia : Int) < 3 := by omega
                      have hb2 : (ib : Int) < 2 := by omega
                      have hwa : IntKind.i64.wrap (ia : Int) = (ia : Int) := by rw [IntKind.wrap_i64]; omega
                      have hwb : IntKind.i64.wrap (ib : Int) = (ib : Int) := by rw [IntKind.wrap_i64]; omega
                      have hcell : ∀ v : Nat, encO (sn (litI i)) = v → wr.cell? ⟨ro, ia * 2 + ib, none⟩ = some (.int .i64 (v : Int)) := fun v hv => by
                        have h1 := HOz.out.cell (i := i) (cellsO_at sn hi6)
                        rw [hv, e3] at h1
                        exact (HBl.out.cell (p := ⟨ro, ia * 2 + ib, none⟩) HROz.out).trans h1
                      by_cases hh : sn (litI i) = some x
                      · have d0 := hcell (x + 1) (by rw [hh]; rfl)
                        have HWN := Lib.hid (wantL_hit hh)
                        have HLN := Lib.hid (HLE.out.hit hi6 hh)
                        have HE3 := Lib.hid e3
                        clear hcell hh e3 hia hib
                        go_wp2_with (first | (at_builtin; go_must (refine wpList_appw rfl (.tmp 115) (.tmp 117) rfl w4.heap.size _ q2 (wantL sn x i) rfl (HR.out.alloc _) wr.heap.size 0 x rfl ((Blk.new _ [.int .u64 (x : Int)] _).cell (i := 0) rfl) (by omega) (by rw [nblk_alloc]; omega) ?_)) | fail)
                        intro v55 w55 hown5 hB5
                        have HR5 := Lib.hid (show w55.ownsRow w4.heap.size 23 1 v55 (q2 + 1) (words (wantL sn x (i + 1))) from by rw [HWN.out]; exact hown5)
                        have HB5 := Lib.hid ((HBl.out.alloc hsw (.cells #[.int .u64 (x : Int)] 23)).trans hB5)
                        clear hown5 hB5 d0
                        by_cases hm : (l2 : Int) ≤ (x : Int)
                        · go_wp2
                          go_roundw
                          case rel => exact ⟨i + 1, l2, q2 + 1, by go_num, by omega, by first | rfl | (rw [show min (l2 : Int) (x : Int) = (l2 : Int) by omega]), by have := HLN.out; rwa [show min l2 x = l2 by omega] at this, HR5.out, by omega, HB5.out⟩
                          case measure => simp [intOf]; omega
                        · go_wp2
                          go_roundw
                          case rel => exact ⟨i + 1, x, q2 + 1, by go_num, by omega, by first | rfl | (rw [show min (l2 : Int) (x : Int) = (x : Int) by omega]), by have := HLN.out; rwa [show min l2 x = x by omega] at this, HR5.out, by omega, HB5.out⟩
                          case measure => simp [intOf]; omega
                      · obtain ⟨v, hv⟩ : ∃ v, encO (sn (litI i)) = v := ⟨_, rfl⟩
                        have d0 := hcell v hv
                        have hne : ((v : Int) == (x : Int) + 1) = false := by
                          simp only [beq_eq_false_iff_ne, ne_eq]
                          intro e
                          have e9 : v = x + 1 := by omega
                          rw [e9] at hv
                          cases hs : sn (litI i) with
                          | none => rw [hs] at hv; cases hv
                          | some y => rw [hs] at hv; exact hh (by rw [hs]; have : y + 1 = x + 1 := hv; rw [show y = x by omega])
                        have HWN := Lib.hid (wantL_no hh)
                        have HLN := Lib.hid (HLE.out.no hh)
                        have HE3 := Lib.hid e3
                        clear hcell hh e3 hia hib hv
                        go_wp2
                        go_roundw
                        case rel => exact ⟨i + 1, l2, q2, by go_num, by omega, rfl, HLN.out, by rw [HWN.out]; exact HR.out, by omega, HBl.out⟩
                        case measure => simp [intOf]; omega
                    · obtain rfl : i = 6 := by omega
                      have HWN := Lib.hid (wantL_nx sn x)
                      go_wp2
                      go_roundw
                      case rel => exact ⟨x + 1, l2, q2, by go_num, by omega, rfl, HLE.out.nx, by rw [HWN.out]; exact HR.out, by omega, HBl.out⟩
                      case measure => simp [intOf]; omega
                · obtain rfl : x = T + 1 := by omega
                  have hd1 : decide (((T + 1 : Nat) : Int) ≤ (T : Int)) = false := by simp; omega
                  obtain ⟨Aw, cw, hwv, hlw, hRw⟩ := Rw.own HR.out
                  subst hwv
                  have HLW := Lib.hid hlw
                  have HRW := Lib.hid hRw
                  have HLF := Lib.hid (HLE.out.fin HIz.out)
                  clear hlw hRw HR HLE
                  go_wp2_with fail
                  refine (mtime_any _ HMr.out).mono ?_; rintro e w8 ⟨rfl, rfl⟩
                  rw [HTe.out]
                  go_wp2_with fail
                  refine (snapshots_any _ HMr.out (by have := HL9.out; omega) (fun xs ha => by have h1 := (ha.perm HIz.out).length_eq; have h2 := belowI_len sn (T + 1) 6; omega)).mono ?_; rintro e w8 ⟨A8, r8, c8, xs, rfl, hA8, hl8, hR8, hB8⟩
                  have hw := want_sorted HIz.out hA8
                  have hrq : r8 = q := by rw [← hl8, ← HLW.out, ← hw, List.length_mergeSort]
                  subst hrq
                  rw [hw] at hR8
                  have HR8 := Lib.hid hR8
                  have HRW8 := Lib.hid (HRW.out.below hB8 (Nat.le_refl _))
                  have HM8 := Lib.hid (HMr.out.below hB8 (Nat.le_refl _))
                  have HB8 := Lib.hid (HBl.out.trans (hB8.mono hsw))
                  clear hA8 hl8 hR8 hB8 hw HMr HBl
                  go_wp2_with fail
                  refine (sameU_any A8 Aw c8 cw (wantL sn (T + 1) 0) _ r8 HLW.out (by omega) HR8.out HRW8.out).mono ?_; rintro e w9 ⟨rfl, hB9⟩
                  have HM9 := Lib.hid (HM8.out.below hB9 (Nat.le_refl _))
                  have HB9 := Lib.hid (HB8.out.trans (hB9.mono HB8.out.size))
                  clear hB9
                  go_wp2_with fail
                  refine (mwater_any _ HM9.out).mono ?_; rintro e w10 ⟨x10, rfl, hx10, hB10⟩
                  rw [HTe.out] at hx10
                  obtain rfl : x10 = l := hx10.uniq HLF.out
                  have HM10 := Lib.hid (HM9.out.below hB10 (Nat.le_refl _))
                  have HB10 := Lib.hid (HB9.out.trans (hB10.mono HB9.out.size))
                  have HO10 := Lib.hid (HB10.out.block ro HROz.out)
                  clear hB10 hx10
                  go_wp2
                  go_roundw
                  case rel => exact ⟨k + 1, _, _, _, _, _, by go_num, by omega, HM10.out, HOz.out.of HO10.out, HNz.out, by rw [HTe.out]; exact HIz.out, by have := HL9.out; omega, by have := HTe.out; have := HL9.out; simp at *; omega, HBz.out.trans (HB10.out.mono HBz.out.size)⟩
                  case measure => simp [intOf]; omega
            · have hn4 : (qq == 4) = false := by simp [hq4]
              have HR3 := Lib.hid ((HST.out.row y HMEM.out).1.below HB3.out (Nat.le_refl _))
              have hyr := (HST.out.row y HMEM.out).2
              have HYR := Lib.hid hyr
              have c1 := (HB3.out.cell (p := ⟨g, off + k * 5 + 1, none⟩) HGLw.out).trans HC1.out
              clear hyr
              go_wp2_with fail
              refine (fit_any y.A y.c y.b _ y.n HYR.out.1 HYR.out.2.1 HR3.out HYR.out.2.2).mono ?_; rintro e w4 ⟨A4, c4, r4, rfl, hr4, hr5, hR4, hB4⟩
              have HM4 := Lib.hid (HM3.out.below hB4 (Nat.le_refl _))
              have HO4 := Lib.hid (HO3.out.of (hB4.block ro HO3.out.lt))
              have HB4 := Lib.hid (HB3.out.trans (hB4.mono HB3.out.size))
              have HR4 := Lib.hid hR4
              have HRL := Lib.hid hr4
              clear hB4 hR4 hr4 c1
              go_wp2_with fail
              refine (mapply_any _ HM4.out (by have := HL9.out; omega) (by have := HL9.out; omega) A4 c4 (fitL y.b) r4 HRL.out (by omega) HR4.out (fitL_sz _) (fitL_chk _)).mono ?_; rintro e w5 ⟨rfl, hM5, hK5⟩
              have HMz := Lib.hid hM5
              have HOz := Lib.hid (hK5.blk HO4.out HN3.out)
              have HNz := Lib.hid (show ¬ (Z ro ∨ (w4.heap.size ≤ ro ∧ ro < w5.heap.size)) from fun h => h.elim HN3.out (fun h => by have := HO4.out.lt; omega))
              have HBz := Lib.hid (HB4.out.trans (hK5.below HB4.out.size (fun i hi => (HM4.out.lt hi).1)))
              obtain ⟨T, hT⟩ : ∃ T, (bs ++ [fitL y.b]).length = T := ⟨_, rfl⟩
              have HTe := Lib.hid hT
              have HIz := Lib.hid (show SnI sn T from HI3.out.mono (by rw [← hT]; simp))
              clear hM5 hK5 hT
              have hT40 : T ≤ 31 := by have := HTe.out; have := HL9.out; simp at *; omega
              have HROz := Lib.hid HOz.out.lt
              go_wp2_with fail
              refine (mtime_any _ HMz.out).mono ?_; rintro e w7 ⟨rfl, rfl⟩
              rw [HTe.out]
              go_wp2_with fail
              go_loopw [8, 9, 10] (fun wv lv xv wr => ∃ (x l q : Nat), xv = .int .u64 (x : Int) ∧ x ≤ T + 1 ∧ lv = .int .u64 (l : Int) ∧ LeastI sn T x 0 l ∧ wr.ownsRow w5.heap.size 23 1 wv q (words (wantL sn x 0)) ∧ q ≤ 6 * x ∧ Below w5.heap.size w5 wr) (fun _ _ xv _ => T + 1 - (intOf xv).toNat)
              case atStart => exact ⟨0, T, 0, rfl, by omega, rfl, ⟨Nat.le_refl _, fun a y ha hy hc => by omega, .inl rfl⟩, World.ownsRow_nil _ _ _ _, by omega, Below.refl _ _⟩
              case round =>
                obtain ⟨x, l, q, rfl, hx, rfl, hle, hrow, hq, hbel⟩ := hrel
                have HMr := Lib.hid (HMz.out.below hbel (Nat.le_refl _))
                have HLE := Lib.hid hle
                have HR := Lib.hid hrow
                have HBl := Lib.hid hbel
                have hsw := hbel.size
                have exw : IntKind.i64.wrap (x : Int) = (x : Int) := by rw [IntKind.wrap_i64]; omega
                have exu : IntKind.u64.wrap ((x : Int) + 1) = (x : Int) + 1 := by rw [IntKind.wrap_u64]; omega
                clear hle hrow hbel
                by_cases hxT : x ≤ T
                · have hd1 : decide ((x : Int) ≤ (T : Int)) = true := by simp [hxT]
                  go_wp2_with fail
                  refine (mtime_any _ HMr.out).mono ?_; rintro e w8 ⟨rfl, rfl⟩
                  rw [HTe.out]
                  go_wp2_with fail
                  go_loopw [8, 9, 11] (fun wv lv iv wr2 => ∃ (i l q : Nat), iv = .int .i64 (i : Int) ∧ i ≤ 6 ∧ lv = .int .u64 (l : Int) ∧ LeastI sn T x i l ∧ wr2.ownsRow w5.heap.size 23 1 wv q (words (wantL sn x i)) ∧ q ≤ 6 * x + i ∧ Below w5.heap.size w5 wr2) (fun _ _ iv _ => 6 - (intOf iv).toNat)
                  case atStart => exact ⟨0, l, q, rfl, by omega, rfl, HLE.out, HR.out, by omega, HBl.out⟩
                  case round =>
                    clear HLE HR HBl HMr hsw hq
                    obtain ⟨i, l2, q2, rfl, hi, rfl, hle, hrow, hq, hbel⟩ := hrel
                    have HLE := Lib.hid hle
                    have HR := Lib.hid hrow
                    have HBl := Lib.hid hbel
                    have hsw := hbel.size
                    clear hle hrow hbel
                    by_cases hi6 : i < 6
                    · obtain ⟨ia, hia⟩ : ∃ ia, i / 2 = ia := ⟨_, rfl⟩
                      obtain ⟨ib, hib⟩ : ∃ ib, i % 2 = ib := ⟨_, rfl⟩
                      have e1 : (i : Int).tdiv 2 = (ia : Int) := by rw [← hia]; rfl
                      have e2 : (i : Int).tmod 2 = (ib : Int) := by rw [← hib]; rfl
                      have e1b : (i : Int) / 2 = (ia : Int) := by omega
                      have e2b : (i : Int) % 2 = (ib : Int) := by omega
                      have e3 : i = ia * 2 + ib := by omega
                      have ha3 : (ia : Int) < 3 := by omega
                      have hb2 : (ib : Int) < 2 := by omega
                      have hwa : IntKind.i64.wrap (ia : Int) = (ia : Int) := by rw [IntKind.wrap_i64]; omega
                      have hwb : IntKind.i64.wrap (ib : Int) = (ib : Int) := by rw [IntKind.wrap_i64]; omega
                      have hcell : ∀ v : Nat, encO (sn (litI i)) = v → wr.cell? ⟨ro, ia * 2 + ib, none⟩ = some (.int .i64 (v : Int)) := fun v hv => by
                        have h1 := HOz.out.cell (i := i) (cellsO_at sn hi6)
                        rw [hv, e3] at h1
                        exact (HBl.out.cell (p := ⟨ro, ia * 2 + ib, none⟩) HROz.out).trans h1
                      by_cases hh : sn (litI i) = some x
                      · have d0 := hcell (x + 1) (by rw [hh]; rfl)
                        have HWN := Lib.hid (wantL_hit hh)
                        have HLN := Lib.hid (HLE.out.hit hi6 hh)
                        have HE3 := Lib.hid e3
                        clear hcell hh e3 hia hib
                        go_wp2_with (first | (at_builtin; go_must (refine wpList_appw rfl (.tmp 115) (.tmp 117) rfl w5.heap.size _ q2 (wantL sn x i) rfl (HR.out.alloc _) wr.heap.size 0 x rfl ((Blk.new _ [.int .u64 (x : Int)] _).cell (i := 0) rfl) (by omega) (by rw [nblk_alloc]; omega) ?_)) | fail)
                        intro v55 w55 hown5 hB5
                        have HR5 := Lib.hid (show w55.ownsRow w5.heap.size 23 1 v55 (q2 + 1) (words (wantL sn x (i + 1))) from by rw [HWN.out]; exact hown5)
                        have HB5 := Lib.hid ((HBl.out.alloc hsw (.cells #[.int .u64 (x : Int)] 23)).trans hB5)
                        clear hown5 hB5 d0
                        by_cases hm : (l2 : Int) ≤ (x : Int)
                        · go_wp2
                          go_roundw
                          case rel => exact ⟨i + 1, l2, q2 + 1, by go_num, by omega, by first | rfl | (rw [show min (l2 : Int) (x : Int) = (l2 : Int) by omega]), by have := HLN.out; rwa [show min l2 x = l2 by omega] at this, HR5.out, by omega, HB5.out⟩
                          case measure => simp [intOf]; omega
                        · go_wp2
                          go_roundw
                          case rel => exact ⟨i + 1, x, q2 + 1, by go_num, by omega, by first | rfl | (rw [show min (l2 : Int) (x : Int) = (x : Int) by omega]), by have := HLN.out; rwa [show min l2 x = x by omega] at this, HR5.out, by omega, HB5.out⟩
                          case measure => simp [intOf]; omega
                      · obtain ⟨v, hv⟩ : ∃ v, encO (sn (litI i)) = v := ⟨_, rfl⟩
                        have d0 := hcell v hv
                        have hne : ((v : Int) == (x : Int) + 1) = false := by
                          simp only [beq_eq_false_iff_ne, ne_eq]
                          intro e
                          have e9 : v = x + 1 := by omega
                          rw [e9] at hv
                          cases hs : sn (litI i) with
                          | none => rw [hs] at hv; cases hv
                          | some y => rw [hs] at hv; exact hh (by rw [hs]; have : y + 1 = x + 1 := hv; rw [show y = x by omega])
                        have HWN := Lib.hid (wantL_no hh)
                        have HLN := Lib.hid (HLE.out.no hh)
                        have HE3 := Lib.hid e3
                        clear hcell hh e3 hia hib hv
                        go_wp2
                        go_roundw
                        case rel => exact ⟨i + 1, l2, q2, by go_num, by omega, rfl, HLN.out, by rw [HWN.out]; exact HR.out, by omega, HBl.out⟩
                        case measure => simp [intOf]; omega
                    · obtain rfl : i = 6 := by omega
                      have HWN := Lib.hid (wantL_nx sn x)
                      go_wp2
                      go_roundw
                      case rel => exact ⟨x + 1, l2, q2, by go_num, by omega, rfl, HLE.out.nx, by rw [HWN.out]; exact HR.out, by omega, HBl.out⟩
                      case measure => simp [intOf]; omega
                · obtain rfl : x = T + 1 := by omega
                  have hd1 : decide (((T + 1 : Nat) : Int) ≤ (T : Int)) = false := by simp; omega
                  obtain ⟨Aw, cw, hwv, hlw, hRw⟩ := Rw.own HR.out
                  subst hwv
                  have HLW := Lib.hid hlw
                  have HRW := Lib.hid hRw
                  have HLF := Lib.hid (HLE.out.fin HIz.out)
                  clear hlw hRw HR HLE
                  go_wp2_with fail
                  refine (mtime_any _ HMr.out).mono ?_; rintro e w8 ⟨rfl, rfl⟩
                  rw [HTe.out]
                  go_wp2_with fail
                  refine (snapshots_any _ HMr.out (by have := HL9.out; omega) (fun xs ha => by have h1 := (ha.perm HIz.out).length_eq; have h2 := belowI_len sn (T + 1) 6; omega)).mono ?_; rintro e w8 ⟨A8, r8, c8, xs, rfl, hA8, hl8, hR8, hB8⟩
                  have hw := want_sorted HIz.out hA8
                  have hrq : r8 = q := by rw [← hl8, ← HLW.out, ← hw, List.length_mergeSort]
                  subst hrq
                  rw [hw] at hR8
                  have HR8 := Lib.hid hR8
                  have HRW8 := Lib.hid (HRW.out.below hB8 (Nat.le_refl _))
                  have HM8 := Lib.hid (HMr.out.below hB8 (Nat.le_refl _))
                  have HB8 := Lib.hid (HBl.out.trans (hB8.mono hsw))
                  clear hA8 hl8 hR8 hB8 hw HMr HBl
                  go_wp2_with fail
                  refine (sameU_any A8 Aw c8 cw (wantL sn (T + 1) 0) _ r8 HLW.out (by omega) HR8.out HRW8.out).mono ?_; rintro e w9 ⟨rfl, hB9⟩
                  have HM9 := Lib.hid (HM8.out.below hB9 (Nat.le_refl _))
                  have HB9 := Lib.hid (HB8.out.trans (hB9.mono HB8.out.size))
                  clear hB9
                  go_wp2_with fail
                  refine (mwater_any _ HM9.out).mono ?_; rintro e w10 ⟨x10, rfl, hx10, hB10⟩
                  rw [HTe.out] at hx10
                  obtain rfl : x10 = l := hx10.uniq HLF.out
                  have HM10 := Lib.hid (HM9.out.below hB10 (Nat.le_refl _))
                  have HB10 := Lib.hid (HB9.out.trans (hB10.mono HB9.out.size))
                  have HO10 := Lib.hid (HB10.out.block ro HROz.out)
                  clear hB10 hx10
                  go_wp2
                  go_roundw
                  case rel => exact ⟨k + 1, _, _, _, _, _, by go_num, by omega, HM10.out, HOz.out.of HO10.out, HNz.out, by rw [HTe.out]; exact HIz.out, by have := HL9.out; omega, by have := HTe.out; have := HL9.out; simp at *; omega, HBz.out.trans (HB10.out.mono HBz.out.size)⟩
                  case measure => simp [intOf]; omega
      · clear HMr HOr HN3 HI3
        go_wp2
        go_ret
        exact ⟨by first | rfl | simp, HBr.out⟩
end Go.Proofs.Ytodenkamlbihnaa
