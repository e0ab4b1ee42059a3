/-
  ModelFloor answers yes for every list of steps. Condition: none beside the form's own reach.
-/
import Derived.Test.YtodenkamlbihnaaModAwake
import Derived.Test.YtodenkamlbihnaaModOpens
import Derived.Deep.Cut
namespace Go.Proofs.Ytodenkamlbihnaa
open Go.RowKit Go.Deep Plain PlainE
set_option linter.unusedVariables false

/-- The floor is not above the time, nor above any open snapshot. -/
def Flo (bs : List (List Wri)) (fl : Nat) (sn : Lit → Option Nat) : Prop := fl ≤ bs.length ∧ ∀ kl x, sn kl = some x → fl ≤ x
theorem Flo.put {bs : List (List Wri)} {fl : Nat} {sn : Lit → Option Nat} (h : Flo bs fl sn) (a : Lit) : Flo bs fl (updL sn a (some bs.length)) := ⟨h.1, fun kl x hx => by
  unfold updL at hx
  split at hx
  · cases hx; exact h.1
  · exact h.2 kl x hx⟩
theorem Flo.del {bs : List (List Wri)} {fl : Nat} {sn : Lit → Option Nat} (h : Flo bs fl sn) (a : Lit) : Flo bs fl (updL sn a none) := ⟨h.1, fun kl x hx => by
  unfold updL at hx
  split at hx
  · cases hx
  · exact h.2 kl x hx⟩
theorem Flo.apply {bs : List (List Wri)} {fl : Nat} {sn : Lit → Option Nat} (h : Flo bs fl sn) (b : List Wri) : Flo (bs ++ [b]) fl sn := ⟨by have := h.1; simp; omega, h.2⟩
theorem Flo.water {bs : List (List Wri)} {fl : Nat} {sn : Lit → Option Nat} (h : Flo bs fl sn) {x : Nat} (hx : IsWm sn bs.length x) : fl ≤ x := by
  rcases hx.2.2 with e | ⟨kl, e⟩
  · rw [e]; exact h.1
  · exact h.2 kl x e
theorem Flo.raise {bs : List (List Wri)} {fl : Nat} {sn : Lit → Option Nat} (h : Flo bs fl sn) {x : Nat} (hx : IsWm sn bs.length x) {tq : Nat} (ht : tq ≤ x) : Flo bs (max fl tq) sn :=
  ⟨by have := h.1; have := hx.1; omega, fun kl y hy => by have := h.2 kl y hy; have := hx.2.1 kl y hy; omega⟩
theorem lim6 {a m : Nat} (h : a ≤ m ∧ m ≤ 40) : a ≤ 1000000 := by omega

set_option maxRecDepth 100000 in
set_option maxHeartbeats 8000000 in
theorem lawModelFloor (w : World) (a : Option Addr) (c : Nat) (ys : List Stp) (n : Nat) (hn : ys.length = n) (hm : n ≤ maxLen) (hS : Stps w a ys) :
    Calls Try.prog 5 #[.slice a n c] w fun e w' => e = .returned (.bool true) ∧ Below w.heap.size w w' := by
  unfold maxLen at hm
  have HST := Lib.hid hS
  have HN := Lib.hid hn
  clear hS hn
  go_enter Try.func5, Try.ntmps5
  go_wp2_with fail
  refine (mnew_any _).mono ?_; rintro e w1 ⟨p, rfl, hM1, hB1⟩
  have HM1 := Lib.hid hM1
  have HB1 := Lib.hid hB1
  clear hM1 hB1
  go_wp2_with fail
  refine (awake_any _).mono ?_; rintro e w2 ⟨rfl, hB2⟩
  have HM2 := Lib.hid (HM1.out.below hB2 (Nat.le_refl _))
  have HB2 := Lib.hid (HB1.out.trans (hB2.mono HB1.out.size))
  clear hB2 HM1 HB1
  by_cases h40 : 40 < n
  · have h41 : ((n : Int) ≤ 40) = False := by simp; omega
    go_wp2_with fail
    refine (awake_any _).mono ?_; rintro e w3 ⟨rfl, hB3⟩
    have HB3 := Lib.hid (HB2.out.trans (hB3.mono HB2.out.size))
    clear hB3
    go_wp2
    go_ret
    exact ⟨by first | rfl | simp, HB3.out⟩
  · have h41 : ¬ (40 : Int) < (n : Int) := by omega
    go_wp2_with fail
    go_loopw [4] (fun i wr => ∃ (k : Nat) (Z : Nat → Prop) (m : Nat) (bs : List (List Wri)) (fl : Nat) (sn : Lit → Option Nat), i = .int .i64 k ∧ k ≤ n ∧ MdS wr p w.heap.size Z m bs fl sn ∧ m ≤ 6 * k ∧ bs.length ≤ k ∧ Flo bs fl sn ∧ Below w.heap.size w wr) (fun i _ => n - (intOf i).toNat)
    case atStart => exact ⟨0, _, 0, [], 0, _, rfl, Nat.zero_le _, HM2.out, Nat.le_refl _, Nat.le_refl _, ⟨Nat.le_refl _, fun kl x h => by cases h⟩, HB2.out⟩
    case round =>
      obtain ⟨k, Z, m, bs, fl, sn, rfl, hk, hM, hm6, hbl, hF, hbel⟩ := hrel
      have HMr := Lib.hid hM
      have HF := Lib.hid hF
      have HBr := Lib.hid hbel
      clear hM hF hbel HM2 HB2
      by_cases hlt : k < n
      · obtain ⟨y, hy⟩ : ∃ y, ys[k]? = some y := ⟨_, List.getElem?_eq_getElem (by have := HN.out; omega)⟩
        obtain ⟨g, off, eA, hg, hcell⟩ := HST.out.at' (by have := HN.out; omega)
        have HC0 := Lib.hid (hcell k 0 y _ hy rfl)
        have HC1 := Lib.hid (hcell k 1 y _ hy rfl)
        have HC2 := Lib.hid (hcell k 2 y _ hy rfl)
        have HC3 := Lib.hid (hcell k 3 y _ hy rfl)
        have HC4 := Lib.hid (hcell k 4 y _ hy rfl)
        have HMEM := Lib.hid (List.mem_of_getElem? hy)
        have HGLw := Lib.hid hg
        have HL9 := Lib.hid (show bs.length ≤ k ∧ k ≤ 40 by omega)
        have HL8 := Lib.hid (show m ≤ 1000000 by omega)
        subst eA
        clear hcell hy hg
        have ht3 : 0 ≤ y.th % 3 ∧ y.th % 3 < 3 := by omega
        have hj2 : 0 ≤ y.jj % 2 ∧ y.jj % 2 < 2 := by omega
        go_upto_region 7 with fail
        obtain ⟨V, hV⟩ : ∃ V, wr = V := ⟨_, rfl⟩
        subst hV
        have HC2b := HC2
        have HC3b := HC3
        replace HC0 := Lib.hid ((HBr.out.cell (p := ⟨g, off + k * 5, none⟩) HGLw.out).trans HC0.out)
        replace HC2 := Lib.hid ((HBr.out.cell (p := ⟨g, off + k * 5 + 2, none⟩) HGLw.out).trans HC2.out)
        replace HC3 := Lib.hid ((HBr.out.cell (p := ⟨g, off + k * 5 + 3, none⟩) HGLw.out).trans HC3.out)
        have HGL := Lib.hid (Nat.lt_of_lt_of_le HGLw.out HBr.out.size)
        refine qregion (fun w' => Kept (fun _ => False) wr w') (by kernel_rfl) (by kernel_rfl) ((Kept.refl _ _).drew) ?_
        refine qstep (o := ⟨some 32, _, _, _, _, _⟩) (v := ?_) (by rfl) (fun wq hSw => ?_) ?_
        rotate_left
        · (go_simp; try with_reducible rfl)
        try simp only [Act.put, List.setIfInBounds_toArray, List.set_cons_zero, List.set_cons_succ]
        refine qstep (o := ⟨some 33, _, _, _, _, _⟩) (v := ?_) (by rfl) (fun wq hSw => ?_) ?_
        rotate_left
        · (go_simp; try with_reducible rfl)
        try simp only [Act.put, List.setIfInBounds_toArray, List.set_cons_zero, List.set_cons_succ]
        refine qstep (o := ⟨some 34, _, _, _, _, _⟩) (v := ?_) (by rfl) (fun wq hSw => ?_) ?_
        rotate_left
        · (go_simp; try with_reducible rfl)
        try simp only [Act.put, List.setIfInBounds_toArray, List.set_cons_zero, List.set_cons_succ]
        refine qstep (o := ⟨some 35, _, _, _, _, _⟩) (v := ?_) (by rfl) (fun wq hSw => ?_) ?_
        rotate_left
        · (go_simp; try with_reducible rfl)
        try simp only [Act.put, List.setIfInBounds_toArray, List.set_cons_zero, List.set_cons_succ]
        refine qstep (o := ⟨some 36, _, _, _, _, _⟩) (v := ?_) (by rfl) (fun wq hSw => ?_) ?_
        rotate_left
        · (have s2 := (hSw.cell (p := ⟨g, off + k * 5 + 2, none⟩) HGL.out (fun h => h)).trans HC2.out; have s3 := (hSw.cell (p := ⟨g, off + k * 5 + 3, none⟩) HGL.out (fun h => h)).trans HC3.out; go_simp; try with_reducible rfl)
        try simp only [Act.put, List.setIfInBounds_toArray, List.set_cons_zero, List.set_cons_succ]
        refine qcall (o := ⟨some 37, _, _, _, _, _⟩) (v := .int .i64 (y.th % 3)) (by rfl) (fun wq hSw => ?_) (fun wq hSw => Calls.mono (mod_any y.th 3 wq (by omega) (by omega)) ?_) ?_
        · (go_simp; try with_reducible rfl)
        · rintro e w9 ⟨rfl, rfl⟩; exact ⟨rfl, hSw⟩
        try simp only [Act.put, List.setIfInBounds_toArray, List.set_cons_zero, List.set_cons_succ]
        refine qstep (o := ⟨some 38, _, _, _, _, _⟩) (v := ?_) (by rfl) (fun wq hSw => ?_) ?_
        rotate_left
        · (go_simp; try with_reducible rfl)
        try simp only [Act.put, List.setIfInBounds_toArray, List.set_cons_zero, List.set_cons_succ]
        refine qstep (o := ⟨some 39, _, _, _, _, _⟩) (v := ?_) (by rfl) (fun wq hSw => ?_) ?_
        rotate_left
        · (go_simp; try with_reducible rfl)
        try simp only [Act.put, List.setIfInBounds_toArray, List.set_cons_zero, List.set_cons_succ]
        refine qstep (o := ⟨some 40, _, _, _, _, _⟩) (v := ?_) (by rfl) (fun wq hSw => ?_) ?_
        rotate_left
        · (go_simp; try with_reducible rfl)
        try simp only [Act.put, List.setIfInBounds_toArray, List.set_cons_zero, List.set_cons_succ]
        refine qstep (o := ⟨some 41, _, _, _, _, _⟩) (v := ?_) (by rfl) (fun wq hSw => ?_) ?_
        rotate_left
        · (go_simp; try with_reducible rfl)
        try simp only [Act.put, List.setIfInBounds_toArray, List.set_cons_zero, List.set_cons_succ]
        refine qstep (o := ⟨some 42, _, _, _, _, _⟩) (v := ?_) (by rfl) (fun wq hSw => ?_) ?_
        rotate_left
        · (have s2 := (hSw.cell (p := ⟨g, off + k * 5 + 2, none⟩) HGL.out (fun h => h)).trans HC2.out; have s3 := (hSw.cell (p := ⟨g, off + k * 5 + 3, none⟩) HGL.out (fun h => h)).trans HC3.out; go_simp; try with_reducible rfl)
        try simp only [Act.put, List.setIfInBounds_toArray, List.set_cons_zero, List.set_cons_succ]
        refine qcall (o := ⟨some 43, _, _, _, _, _⟩) (v := .int .i64 (y.jj % 2)) (by rfl) (fun wq hSw => ?_) (fun wq hSw => Calls.mono (mod_any y.jj 2 wq (by omega) (by omega)) ?_) ?_
        · (go_simp; try with_reducible rfl)
        · rintro e w9 ⟨rfl, rfl⟩; exact ⟨rfl, hSw⟩
        try simp only [Act.put, List.setIfInBounds_toArray, List.set_cons_zero, List.set_cons_succ]
        refine qstep (o := ⟨some 5, _, _, _, _, _⟩) (v := ?_) (by rfl) (fun wq hSw => ?_) ?_
        rotate_left
        · (go_simp; try with_reducible rfl)
        try simp only [Act.put, List.setIfInBounds_toArray, List.set_cons_zero, List.set_cons_succ]
        refine qstep (o := ⟨some 6, _, _, _, _, _⟩) (v := ?_) (by rfl) (fun wq hSw => ?_) ?_
        rotate_left
        · (go_simp; try with_reducible rfl)
        try simp only [Act.put, List.setIfInBounds_toArray, List.set_cons_zero, List.set_cons_succ]
        refine wpQuiet_nil ?_
        intro wz hHeld
        have HM3 := Lib.hid (HMr.out.keep hHeld (fun _ _ h => h))
        have HB3 := Lib.hid (HBr.out.trans (hHeld.below HBr.out.size (fun i h => h.elim)))
        have c0 := (hHeld.cell (p := ⟨g, off + k * 5, none⟩) HGL.out (fun h => h)).trans HC0.out
        clear hHeld HC2 HC3 HC0 HGL HMr HBr HC2b HC3b
        go_wp2_with fail
        refine (mfloor_any _ HM3.out).mono ?_; rintro e w9 ⟨rfl, rfl⟩
        go_wp2_with fail
        refine (mod_any y.kind 5 _ (by omega) (by omega)).mono ?_; rintro e w9 ⟨rfl, rfl⟩
        obtain ⟨q, hq⟩ : ∃ q, y.kind % 5 = q := ⟨_, rfl⟩
        rw [hq]
        have hq5 : 0 ≤ q ∧ q < 5 := by omega
        clear hq c0
        obtain ⟨V3, hV3⟩ : ∃ V, wz = V := ⟨_, rfl⟩
        subst hV3
        by_cases hq2 : q = 2
        · subst hq2
          go_wp2_with fail
          refine (mopen_any _ HM3.out (lim6 HL9.out) HL8.out _ _ ht3 hj2).mono ?_; rintro e w4 ⟨rfl, hM4, hK4⟩
          have HMz := Lib.hid hM4
          have HBz := Lib.hid (HB3.out.trans (hK4.below HB3.out.size (fun i hi => (HM3.out.lt hi).1)))
          have HFz := Lib.hid (HF.out.put (litP (y.th % 3) (y.jj % 2)))
          clear hM4 hK4
          go_wp2_with fail
          refine (mfloor_any _ HMz.out).mono ?_; rintro e w7 ⟨rfl, rfl⟩
          go_wp2_with fail
          refine (mfloor_any _ HMz.out).mono ?_; rintro e w7 ⟨rfl, rfl⟩
          go_wp2_with fail
          refine (mwater_any _ HMz.out).mono ?_; rintro e w8 ⟨x8, rfl, hx8, hB8⟩
          have HMy := Lib.hid (HMz.out.below hB8 (Nat.le_refl _))
          have HBy := Lib.hid (HBz.out.trans (hB8.mono HBz.out.size))
          have hle := HFz.out.water hx8
          clear hB8
          go_wp2
          go_roundw
          case rel => exact ⟨k + 1, _, _, _, _, _, by go_num, by omega, HMy.out, by omega, by have := HL9.out; first | omega | (simp; omega), HFz.out, HBy.out⟩
          case measure => simp [intOf]; omega
        · have hn2 : (q == 2) = false := by simp [hq2]
          by_cases hq3 : q = 3
          · subst hq3
            go_wp2_with fail
            refine (mrelease_any _ HM3.out _ _ ht3 hj2).mono ?_; rintro e w4 ⟨rfl, hM4, hK4⟩
            have HMz := Lib.hid hM4
            have HBz := Lib.hid (HB3.out.trans (hK4.below HB3.out.size (fun i hi => (HM3.out.lt hi).1)))
            have HFz := Lib.hid (HF.out.del (litP (y.th % 3) (y.jj % 2)))
            clear hM4 hK4
            go_wp2_with fail
            refine (mfloor_any _ HMz.out).mono ?_; rintro e w7 ⟨rfl, rfl⟩
            go_wp2_with fail
            refine (mfloor_any _ HMz.out).mono ?_; rintro e w7 ⟨rfl, rfl⟩
            go_wp2_with fail
            refine (mwater_any _ HMz.out).mono ?_; rintro e w8 ⟨x8, rfl, hx8, hB8⟩
            have HMy := Lib.hid (HMz.out.below hB8 (Nat.le_refl _))
            have HBy := Lib.hid (HBz.out.trans (hB8.mono HBz.out.size))
            have hle := HFz.out.water hx8
            clear hB8
            go_wp2
            go_roundw
            case rel => exact ⟨k + 1, _, _, _, _, _, by go_num, by omega, HMy.out, by omega, by have := HL9.out; first | omega | (simp; omega), HFz.out, HBy.out⟩
            case measure => simp [intOf]; omega
          · have hn3 : (q == 3) = false := by simp [hq3]
            by_cases hq4 : q = 4
            · subst hq4
              have HGL3 := Lib.hid (show g < wz.heap.size from Nat.lt_of_lt_of_le HGLw.out HB3.out.size)
              have HC43 := Lib.hid ((HB3.out.cell (p := ⟨g, off + k * 5 + 4, none⟩) HGLw.out).trans HC4.out)
              obtain ⟨tq, htm⟩ : ∃ tq : Nat, (y.to : Int).tmod ((bs.length : Int) + 2) = (tq : Int) := ⟨y.to % (bs.length + 2), by rw [show ((bs.length : Int) + 2) = ((bs.length + 2 : Nat) : Int) by omega]; rfl⟩
              have htm2 : (y.to : Int) % ((bs.length : Int) + 2) = (tq : Int) := by rw [← htm]; exact (Int.tmod_eq_emod_of_nonneg (by omega)).symm
              have ew : IntKind.u64.wrap ((bs.length : Int) + 2) = (bs.length : Int) + 2 := by rw [IntKind.wrap_u64]; have := HL9.out; omega
              have hwo := (HST.out.word y HMEM.out).1
              have htl : (tq : Int) ≤ (bs.length : Int) + 1 := by rw [← htm2]; have := Int.emod_lt_of_pos (y.to : Int) (show (0 : Int) < (bs.length : Int) + 2 by omega); omega
              have ew2 : IntKind.u64.wrap (tq : Int) = (tq : Int) := by rw [IntKind.wrap_u64]; have := HL9.out; omega
              have hne2 : ((bs.length : Int) + 2 == 0) = false := by simp; omega
              go_upto_region 16 with fail
              refine qregion (fun w' => Kept (fun _ => False) wz w') (by kernel_rfl) (by kernel_rfl) ((Kept.refl _ _).drew) ?_
              refine qstep (o := ⟨some 74, _, _, _, _, _⟩) (v := ?_) (by rfl) (fun wq hSw => ?_) ?_
              rotate_left
              · (go_simp; try with_reducible rfl)
              try simp only [Act.put, List.setIfInBounds_toArray, List.set_cons_zero, List.set_cons_succ]
              refine qstep (o := ⟨some 75, _, _, _, _, _⟩) (v := ?_) (by rfl) (fun wq hSw => ?_) ?_
              rotate_left
              · (go_simp; try with_reducible rfl)
              try simp only [Act.put, List.setIfInBounds_toArray, List.set_cons_zero, List.set_cons_succ]
              refine qstep (o := ⟨some 76, _, _, _, _, _⟩) (v := ?_) (by rfl) (fun wq hSw => ?_) ?_
              rotate_left
              · (go_simp; try with_reducible rfl)
              try simp only [Act.put, List.setIfInBounds_toArray, List.set_cons_zero, List.set_cons_succ]
              refine qstep (o := ⟨some 77, _, _, _, _, _⟩) (v := ?_) (by rfl) (fun wq hSw => ?_) ?_
              rotate_left
              · (go_simp; try with_reducible rfl)
              try simp only [Act.put, List.setIfInBounds_toArray, List.set_cons_zero, List.set_cons_succ]
              refine qstep (o := ⟨some 78, _, _, _, _, _⟩) (v := ?_) (by rfl) (fun wq hSw => ?_) ?_
              rotate_left
              · (have s4 := (hSw.cell (p := ⟨g, off + k * 5 + 4, none⟩) HGL3.out (fun h => h)).trans HC43.out; go_simp; try with_reducible rfl)
              try simp only [Act.put, List.setIfInBounds_toArray, List.set_cons_zero, List.set_cons_succ]
              refine qstep (o := ⟨some 79, _, _, _, _, _⟩) (v := ?_) (by rfl) (fun wq hSw => ?_) ?_
              rotate_left
              · (go_simp; try with_reducible rfl)
              try simp only [Act.put, List.setIfInBounds_toArray, List.set_cons_zero, List.set_cons_succ]
              refine qcall (o := ⟨some 80, _, _, _, _, _⟩) (v := .int .u64 (bs.length : Int)) (by rfl) (fun wq hSw => ?_) (fun wq hSw => Calls.mono (mtime_any wq (HM3.out.keep hSw (fun _ _ h => h))) ?_) ?_
              · (go_simp; try with_reducible rfl)
              · rintro e w9 ⟨rfl, rfl⟩; exact ⟨rfl, hSw⟩
              try simp only [Act.put, List.setIfInBounds_toArray, List.set_cons_zero, List.set_cons_succ]
              refine qstep (o := ⟨some 81, _, _, _, _, _⟩) (v := ?_) (by rfl) (fun wq hSw => ?_) ?_
              rotate_left
              · (go_simp; try with_reducible rfl)
              try simp only [Act.put, List.setIfInBounds_toArray, List.set_cons_zero, List.set_cons_succ]
              refine qstep (o := ⟨some 82, _, _, _, _, _⟩) (v := .int .u64 (tq : Int)) (by rfl) (fun wq hSw => ?_) ?_
              · (go_simp; try first | (with_reducible rfl) | (simp; omega) | (intros; omega) | simp [*])
              try simp only [Act.put, List.setIfInBounds_toArray, List.set_cons_zero, List.set_cons_succ]
              refine qstep (o := ⟨some 8, _, _, _, _, _⟩) (v := ?_) (by rfl) (fun wq hSw => ?_) ?_
              rotate_left
              · (go_simp; try with_reducible rfl)
              try simp only [Act.put, List.setIfInBounds_toArray, List.set_cons_zero, List.set_cons_succ]
              refine wpQuiet_nil ?_
              intro wz hHeld
              have HM4 := Lib.hid (HM3.out.keep hHeld (fun _ _ h => h))
              have HB4 := Lib.hid (HB3.out.trans (hHeld.below HB3.out.size (fun i h => h.elim)))
              clear hHeld htm htm2 htl ew hwo ew2 hne2
              go_wp2_with fail
              refine (mraise_any _ HM4.out tq).mono ?_; rintro e w5 ⟨x5, hx5, rfl, hM5, hK5⟩
              have hB5 := HB4.out.trans (hK5.below HB4.out.size (fun i hi => (HM4.out.lt hi).1))
              have HM5 := Lib.hid hM5
              have HB5 := Lib.hid hB5
              clear hM5 hK5 hB5
              go_wp2_with fail
              refine (mwater_any _ HM5.out).mono ?_; rintro e w6 ⟨x6, rfl, hx6, hB6⟩
              obtain rfl := hx6.uniq hx5
              have HX := Lib.hid hx5
              have HM6 := Lib.hid (HM5.out.below hB6 (Nat.le_refl _))
              have HB6 := Lib.hid (HB5.out.trans (hB6.mono HB5.out.size))
              clear hB6 hx6 hx5
              by_cases hto : tq ≤ x6
              · have d1 : decide (tq ≤ x6) = true := by simp [hto]
                have d2 : decide ((tq : Int) ≤ (x6 : Int)) = true := by simp [hto]
                rw [d1]
                go_wp2_with fail
                refine (mwater_any _ HM6.out).mono ?_; rintro e w7 ⟨x7, rfl, hx7, hB7⟩
                obtain rfl := hx7.uniq HX.out
                have hm7 := HM6.out.below hB7 (Nat.le_refl _)
                rw [if_pos hto] at hm7
                have HMz := Lib.hid hm7
                have HBz := Lib.hid (HB6.out.trans (hB7.mono HB6.out.size))
                have HFz := Lib.hid (HF.out.raise HX.out hto)
                clear hB7 hx7 hm7
                obtain ⟨f2, hf2⟩ : ∃ f2, max fl tq = f2 := ⟨_, rfl⟩
                rw [hf2] at HMz HFz
                go_wp2_with fail
                refine (mfloor_any _ HMz.out).mono ?_; rintro e w8 ⟨rfl, rfl⟩
                by_cases hfl : (fl : Int) < (tq : Int)
                · obtain rfl : f2 = tq := by omega
                  have hfle : ¬ (f2 : Int) < (fl : Int) := by omega
                  go_wp2_with fail
                  refine (mfloor_any _ HMz.out).mono ?_; rintro e w7 ⟨rfl, rfl⟩
                  go_wp2_with fail
                  refine (mfloor_any _ HMz.out).mono ?_; rintro e w7 ⟨rfl, rfl⟩
                  go_wp2_with fail
                  refine (mwater_any _ HMz.out).mono ?_; rintro e w8 ⟨x8, rfl, hx8, hB8⟩
                  have HMy := Lib.hid (HMz.out.below hB8 (Nat.le_refl _))
                  have HBy := Lib.hid (HBz.out.trans (hB8.mono HBz.out.size))
                  have hle := HFz.out.water hx8
                  clear hB8
                  go_wp2
                  go_roundw
                  case rel => exact ⟨k + 1, _, _, _, _, _, by go_num, by omega, HMy.out, by omega, by have := HL9.out; first | omega | (simp; omega), HFz.out, HBy.out⟩
                  case measure => simp [intOf]; omega
                · obtain rfl : f2 = fl := by omega
                  go_wp2_with fail
                  refine (mfloor_any _ HMz.out).mono ?_; rintro e w7 ⟨rfl, rfl⟩
                  go_wp2_with fail
                  refine (mfloor_any _ HMz.out).mono ?_; rintro e w7 ⟨rfl, rfl⟩
                  go_wp2_with fail
                  refine (mwater_any _ HMz.out).mono ?_; rintro e w8 ⟨x8, rfl, hx8, hB8⟩
                  have HMy := Lib.hid (HMz.out.below hB8 (Nat.le_refl _))
                  have HBy := Lib.hid (HBz.out.trans (hB8.mono HBz.out.size))
                  have hle := HFz.out.water hx8
                  clear hB8
                  go_wp2
                  go_roundw
                  case rel => exact ⟨k + 1, _, _, _, _, _, by go_num, by omega, HMy.out, by omega, by have := HL9.out; first | omega | (simp; omega), HFz.out, HBy.out⟩
                  case measure => simp [intOf]; omega
              · have d1 : decide (tq ≤ x6) = false := by simp [hto]
                have d2 : decide ((tq : Int) ≤ (x6 : Int)) = false := by simp; omega
                rw [d1]
                go_wp2_with fail
                refine (mwater_any _ HM6.out).mono ?_; rintro e w7 ⟨x7, rfl, hx7, hB7⟩
                obtain rfl := hx7.uniq HX.out
                have hm7 := HM6.out.below hB7 (Nat.le_refl _)
                rw [if_neg hto] at hm7
                have HMz := Lib.hid hm7
                have HBz := Lib.hid (HB6.out.trans (hB7.mono HB6.out.size))
                have HFz := HF
                clear hB7 hx7 hm7
                go_wp2_with fail
                refine (mfloor_any _ HMz.out).mono ?_; rintro e w7 ⟨rfl, rfl⟩
                go_wp2_with fail
                refine (mfloor_any _ HMz.out).mono ?_; rintro e w7 ⟨rfl, rfl⟩
                go_wp2_with fail
                refine (mwater_any _ HMz.out).mono ?_; rintro e w8 ⟨x8, rfl, hx8, hB8⟩
                have HMy := Lib.hid (HMz.out.below hB8 (Nat.le_refl _))
                have HBy := Lib.hid (HBz.out.trans (hB8.mono HBz.out.size))
                have hle := HFz.out.water hx8
                clear hB8
                go_wp2
                go_roundw
                case rel => exact ⟨k + 1, _, _, _, _, _, by go_num, by omega, HMy.out, by omega, by have := HL9.out; first | omega | (simp; omega), HFz.out, HBy.out⟩
                case measure => simp [intOf]; omega
            · have hn4 : (q == 4) = false := by simp [hq4]
              have HR3 := Lib.hid ((HST.out.row y HMEM.out).1.below HB3.out (Nat.le_refl _))
              have hyr := (HST.out.row y HMEM.out).2
              have HYR := Lib.hid hyr
              have c1 := (HB3.out.cell (p := ⟨g, off + k * 5 + 1, none⟩) HGLw.out).trans HC1.out
              clear hyr
              go_wp2_with fail
              refine (fit_any y.A y.c y.b _ y.n HYR.out.1 HYR.out.2.1 HR3.out HYR.out.2.2).mono ?_; rintro e w4 ⟨A4, c4, r4, rfl, hr4, hr5, hR4, hB4⟩
              have HM4 := Lib.hid (HM3.out.below hB4 (Nat.le_refl _))
              have HB4 := Lib.hid (HB3.out.trans (hB4.mono HB3.out.size))
              have HR4 := Lib.hid hR4
              have HRL := Lib.hid hr4
              clear hB4 hR4 hr4 c1
              go_wp2_with fail
              refine (mapply_any _ HM4.out (lim6 HL9.out) HL8.out A4 c4 (fitL y.b) r4 HRL.out (by omega) HR4.out (fitL_sz _) (fitL_chk _)).mono ?_; rintro e w5 ⟨rfl, hM5, hK5⟩
              have HMz := Lib.hid hM5
              have HBz := Lib.hid (HB4.out.trans (hK5.below HB4.out.size (fun i hi => (HM4.out.lt hi).1)))
              have HFz := Lib.hid (HF.out.apply (fitL y.b))
              clear hM5 hK5
              go_wp2_with fail
              refine (mfloor_any _ HMz.out).mono ?_; rintro e w7 ⟨rfl, rfl⟩
              go_wp2_with fail
              refine (mfloor_any _ HMz.out).mono ?_; rintro e w7 ⟨rfl, rfl⟩
              go_wp2_with fail
              refine (mwater_any _ HMz.out).mono ?_; rintro e w8 ⟨x8, rfl, hx8, hB8⟩
              have HMy := Lib.hid (HMz.out.below hB8 (Nat.le_refl _))
              have HBy := Lib.hid (HBz.out.trans (hB8.mono HBz.out.size))
              have hle := HFz.out.water hx8
              clear hB8
              go_wp2
              go_roundw
              case rel => exact ⟨k + 1, _, _, _, _, _, by go_num, by omega, HMy.out, by omega, by have := HL9.out; first | omega | (simp; omega), HFz.out, HBy.out⟩
              case measure => simp [intOf]; omega
      · clear HMr HF
        go_wp2
        go_ret
        exact ⟨by first | rfl | simp, HBr.out⟩
end Go.Proofs.Ytodenkamlbihnaa
