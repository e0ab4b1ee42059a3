/-
  The law's same answers yes of a model and a world of the reference that stand for the same batches, floor and snapshots. Condition: at most a hundred batches of at most five writes.
-/
import Derived.Test.YtodenkamlbihnaaModList
import Derived.Test.YtodenkamlbihnaaModWf
import Derived.Test.YtodenkamlbihnaaBatSame
import Derived.Deep.Cut
import Derived.BigRegion
namespace Go.Proofs.Ytodenkamlbihnaa
open Go.RowKit Go.Deep Plain PlainE
set_option linter.unusedVariables false

theorem getV_L (xs : List Ent) (k : ByteArray) : getV xs k = strO (getL xs k) := by
  rfl
theorem getB_L (xs : List Ent) (k : ByteArray) : getB xs k = (getL xs k).isSome := by
  rfl

theorem mwater_is {p B m : Nat} {Z : Nat → Prop} {bs : List (List Wri)} {fl : Nat} {sn : Lit → Option Nat} (w : World) (h : MdS w p B Z m bs fl sn) {x : Nat} (hx : IsWm sn bs.length x) :
    Calls Try.prog 25 #[.pointer (some ⟨p, 0, none⟩)] w fun e w' => e = .returned (.int .u64 (x : Int)) ∧ Below w.heap.size w w' :=
  (mwater_any w h).mono fun e w' ⟨y, h1, h2, h3⟩ => ⟨by rw [h1, h2.uniq hx], h3⟩
theorem wwater_eq {q B : Nat} {Z : Nat → Prop} {bs : List (List Wri)} {fl : Nat} {sv : List Sp} (w : World) (h : WdS w q B Z bs fl sv) (hT : bs.length ≤ 100) (hs : sv.length ≤ 1000000) {x : Nat} (hx : leastS bs.length sv = x) :
    Calls Try.prog 31 #[.pointer (some ⟨q, 0, none⟩)] w fun e w' => e = .returned (.int .u64 (x : Int)) ∧ w = w' := by
  rw [← hx]; exact wwater_any w h hT hs

set_option maxRecDepth 100000 in
set_option maxHeartbeats 8000000 in
theorem same_any {p q B B2 m : Nat} {Z Z2 : Nat → Prop} {bs : List (List Wri)} {fl : Nat} {sn : Lit → Option Nat} {sv : List Sp} (w : World) (hM : MdS w p B Z m bs fl sn) (hW : WdS w q B2 Z2 bs fl sv) (hS : SnR sn sv) (hT : bs.length ≤ 100) (hm : m ≤ 1000000) (hv : sv.length ≤ 1000000) (hb5 : ∀ b ∈ bs, b.length ≤ 5) (t : Nat) (ht : t < 18446744073709551616) (key : ByteArray) (hkey : key.size ≤ maxLen) :
    Calls Try.prog 21 #[.pointer (some ⟨p, 0, none⟩), .pointer (some ⟨q, 0, none⟩), .int .u64 (t : Int), .string key] w fun e w' => e = .returned (.bool true) ∧ Below w.heap.size w w' := by
  obtain ⟨x, hx⟩ : ∃ x, leastS bs.length sv = x := ⟨_, rfl⟩
  have hwm : IsWm sn bs.length x := hx ▸ hS.least bs.length
  have HXE := Lib.hid hx
  have HX := Lib.hid hwm
  have HM := Lib.hid hM
  have HW := Lib.hid hW
  have HL := Lib.hid (show bs.length ≤ 100 ∧ sv.length ≤ 1000000 ∧ m ≤ 1000000 from ⟨hT, hv, hm⟩)
  have HB5 := Lib.hid hb5
  have HKEY := Lib.hid hkey
  have HQ := Lib.hid (show q < w.heap.size ∧ w.cell? ⟨q, 1, none⟩ = some (.int .u64 (fl : Int)) by
    obtain ⟨_, _, _, h⟩ := hW
    exact ⟨h.p.lt, h.p.cell (i := 1) rfl⟩)
  clear hx hwm hM hW hS hm hv hb5 hkey
  go_enter Try.func21, Try.ntmps21
  go_upto_region 1 with fail
  refine qregion (fun w' => Kept (fun _ => False) w w') (by kernel_rfl) (by kernel_rfl) ((Kept.refl _ _).drew) ?_
  refine qstep (o := ⟨some 16, _, _, _, _, _⟩) (v := ?_) (by rfl) (fun wq hSw => ?_) ?_
  rotate_left
  · (go_simp; try with_reducible rfl)
  try simp only [Act.put, List.setIfInBounds_toArray, List.set_cons_zero, List.set_cons_succ]
  refine qcall (o := ⟨some 17, _, _, _, _, _⟩) (v := .int .u64 (bs.length : Int)) (by rfl) (fun wq hSw => ?_) (fun wq hSw => Calls.mono (mtime_any wq (HM.out.keep hSw (fun _ _ h => h))) ?_) ?_
  · (go_simp; try with_reducible rfl)
  · rintro e w9 ⟨rfl, rfl⟩; exact ⟨rfl, hSw⟩
  try simp only [Act.put, List.setIfInBounds_toArray, List.set_cons_zero, List.set_cons_succ]
  refine qstep (o := ⟨some 18, _, _, _, _, _⟩) (v := ?_) (by rfl) (fun wq hSw => ?_) ?_
  rotate_left
  · (go_simp; try with_reducible rfl)
  try simp only [Act.put, List.setIfInBounds_toArray, List.set_cons_zero, List.set_cons_succ]
  refine qcall (o := ⟨some 19, _, _, _, _, _⟩) (v := .int .u64 (bs.length : Int)) (by rfl) (fun wq hSw => ?_) (fun wq hSw => Calls.mono (wtime_any wq (HW.out.keep hSw (fun _ _ h => h)) HL.out.1) ?_) ?_
  · (go_simp; try with_reducible rfl)
  · rintro e w9 ⟨rfl, rfl⟩; exact ⟨rfl, hSw⟩
  try simp only [Act.put, List.setIfInBounds_toArray, List.set_cons_zero, List.set_cons_succ]
  refine qstep (o := ⟨some 20, _, _, _, _, _⟩) (v := .bool false) (by rfl) (fun wq hSw => ?_) ?_
  · (go_simp; try first | (with_reducible rfl) | (simp; omega) | (intros; omega) | simp [*])
  try simp only [Act.put, List.setIfInBounds_toArray, List.set_cons_zero, List.set_cons_succ]
  refine qstep (o := ⟨some 21, _, _, _, _, _⟩) (v := .bool false) (by rfl) (fun wq hSw => ?_) ?_
  · (go_simp; try first | (with_reducible rfl) | (simp; omega) | (intros; omega) | simp [*])
  try simp only [Act.put, List.setIfInBounds_toArray, List.set_cons_zero, List.set_cons_succ]
  refine qstep (o := ⟨some 22, _, _, _, _, _⟩) (v := ?_) (by rfl) (fun wq hSw => ?_) ?_
  rotate_left
  · (go_simp; try with_reducible rfl)
  try simp only [Act.put, List.setIfInBounds_toArray, List.set_cons_zero, List.set_cons_succ]
  refine qcall (o := ⟨some 23, _, _, _, _, _⟩) (v := .int .u64 (fl : Int)) (by rfl) (fun wq hSw => ?_) (fun wq hSw => Calls.mono (mfloor_any wq (HM.out.keep hSw (fun _ _ h => h))) ?_) ?_
  · (go_simp; try with_reducible rfl)
  · rintro e w9 ⟨rfl, rfl⟩; exact ⟨rfl, hSw⟩
  try simp only [Act.put, List.setIfInBounds_toArray, List.set_cons_zero, List.set_cons_succ]
  refine qstep (o := ⟨some 24, _, _, _, _, _⟩) (v := ?_) (by rfl) (fun wq hSw => ?_) ?_
  rotate_left
  · (go_simp; try with_reducible rfl)
  try simp only [Act.put, List.setIfInBounds_toArray, List.set_cons_zero, List.set_cons_succ]
  refine qstep (o := ⟨some 25, _, _, _, _, _⟩) (v := ?_) (by rfl) (fun wq hSw => ?_) ?_
  rotate_left
  · (go_simp; try with_reducible rfl)
  try simp only [Act.put, List.setIfInBounds_toArray, List.set_cons_zero, List.set_cons_succ]
  refine qstep (o := ⟨some 26, _, _, _, _, _⟩) (v := ?_) (by rfl) (fun wq hSw => ?_) ?_
  rotate_left
  · (go_simp; try with_reducible rfl)
  try simp only [Act.put, List.setIfInBounds_toArray, List.set_cons_zero, List.set_cons_succ]
  refine qstep (o := ⟨some 27, _, _, _, _, _⟩) (v := ?_) (by rfl) (fun wq hSw => ?_) ?_
  rotate_left
  · (have c1 := (hSw.cell (p := ⟨q, 1, none⟩) HQ.out.1 (fun h => h)).trans HQ.out.2; go_simp; try with_reducible rfl)
  try simp only [Act.put, List.setIfInBounds_toArray, List.set_cons_zero, List.set_cons_succ]
  refine qstep (o := ⟨some 28, _, _, _, _, _⟩) (v := .bool false) (by rfl) (fun wq hSw => ?_) ?_
  · (go_simp; try first | (with_reducible rfl) | (simp; omega) | (intros; omega) | simp [*])
  try simp only [Act.put, List.setIfInBounds_toArray, List.set_cons_zero, List.set_cons_succ]
  refine qstep (o := ⟨some 29, _, _, _, _, _⟩) (v := .bool false) (by rfl) (fun wq hSw => ?_) ?_
  · (go_simp; try first | (with_reducible rfl) | (simp; omega) | (intros; omega) | simp [*])
  try simp only [Act.put, List.setIfInBounds_toArray, List.set_cons_zero, List.set_cons_succ]
  refine qstep (o := ⟨some 30, _, _, _, _, _⟩) (v := .bool false) (by rfl) (fun wq hSw => ?_) ?_
  · (go_simp; try first | (with_reducible rfl) | (simp; omega) | (intros; omega) | simp [*])
  try simp only [Act.put, List.setIfInBounds_toArray, List.set_cons_zero, List.set_cons_succ]
  refine qstep (o := ⟨some 31, _, _, _, _, _⟩) (v := ?_) (by rfl) (fun wq hSw => ?_) ?_
  rotate_left
  · (go_simp; try with_reducible rfl)
  try simp only [Act.put, List.setIfInBounds_toArray, List.set_cons_zero, List.set_cons_succ]
  refine qcall (o := ⟨some 32, _, _, _, _, _⟩) (v := .int .u64 (x : Int)) (by rfl) (fun wq hSw => ?_) (fun wq hSw => Calls.mono (mwater_is wq (HM.out.keep hSw (fun _ _ h => h)) HX.out) ?_) ?_
  · (go_simp; try with_reducible rfl)
  · rintro e w9 ⟨rfl, hk⟩; exact ⟨rfl, hSw.trans (Below.kept hk (fun i hi hB => absurd hi (by omega))) (fun _ _ h => h)⟩
  try simp only [Act.put, List.setIfInBounds_toArray, List.set_cons_zero, List.set_cons_succ]
  refine qstep (o := ⟨some 33, _, _, _, _, _⟩) (v := ?_) (by rfl) (fun wq hSw => ?_) ?_
  rotate_left
  · (go_simp; try with_reducible rfl)
  try simp only [Act.put, List.setIfInBounds_toArray, List.set_cons_zero, List.set_cons_succ]
  refine qcall (o := ⟨some 34, _, _, _, _, _⟩) (v := .int .u64 (x : Int)) (by rfl) (fun wq hSw => ?_) (fun wq hSw => Calls.mono (wwater_eq wq (HW.out.keep hSw (fun _ _ h => h)) HL.out.1 HL.out.2.1 HXE.out) ?_) ?_
  · (go_simp; try with_reducible rfl)
  · rintro e w9 ⟨rfl, rfl⟩; exact ⟨rfl, hSw⟩
  try simp only [Act.put, List.setIfInBounds_toArray, List.set_cons_zero, List.set_cons_succ]
  refine qstep (o := ⟨some 35, _, _, _, _, _⟩) (v := .bool false) (by rfl) (fun wq hSw => ?_) ?_
  · (go_simp; try first | (with_reducible rfl) | (simp; omega) | (intros; omega) | simp [*])
  try simp only [Act.put, List.setIfInBounds_toArray, List.set_cons_zero, List.set_cons_succ]
  refine qstep (o := ⟨some 36, _, _, _, _, _⟩) (v := .bool false) (by rfl) (fun wq hSw => ?_) ?_
  · (go_simp; try first | (with_reducible rfl) | (simp; omega) | (intros; omega) | simp [*])
  try simp only [Act.put, List.setIfInBounds_toArray, List.set_cons_zero, List.set_cons_succ]
  refine wpQuiet_nil ?_
  intro wz hHeld
  have HM1 := Lib.hid (HM.out.keep hHeld (fun _ _ h => h))
  have HW1 := Lib.hid (HW.out.keep hHeld (fun _ _ h => h))
  have HB1 := Lib.hid (hHeld.below (Nat.le_refl _) (fun i h => h.elim))
  clear hHeld HM HW HQ
  obtain ⟨T, hTT⟩ : ∃ T, bs.length = T := ⟨_, rfl⟩
  have con := wtime_any wz HW1.out HL.out.1
  rw [hTT] at con hT
  obtain ⟨T2, h2m⟩ : ∃ T2 : Nat, (T : Int).tdiv 2 = (T2 : Int) := ⟨T / 2, by rfl⟩
  have h2m2 : (T : Int) / 2 = (T2 : Int) := by rw [← h2m]; exact (Int.tdiv_eq_ediv_of_nonneg (by omega)).symm
  obtain ⟨tq, htm⟩ : ∃ tq : Nat, (t : Int).tmod ((T : Int) + 2) = (tq : Int) := ⟨t % (T + 2), by rw [show ((T : Int) + 2) = ((T + 2 : Nat) : Int) by omega]; rfl⟩
  have htm2 : (t : Int) % ((T : Int) + 2) = (tq : Int) := by rw [← htm]; exact (Int.tmod_eq_emod_of_nonneg (by omega)).symm
  have htl : (tq : Int) ≤ (T : Int) + 1 := by rw [← htm2]; have := Int.emod_lt_of_pos (t : Int) (show (0 : Int) < (T : Int) + 2 by omega); omega
  have hT2l : (T2 : Int) ≤ (T : Int) := by rw [← h2m2]; omega
  have ew : IntKind.u64.wrap ((T : Int) + 2) = (T : Int) + 2 := by rw [IntKind.wrap_u64]; omega
  have ew2 : IntKind.u64.wrap (tq : Int) = (tq : Int) := by rw [IntKind.wrap_u64]; omega
  have ew3 : IntKind.u64.wrap (T2 : Int) = (T2 : Int) := by rw [IntKind.wrap_u64]; omega
  have hne2 : ((T : Int) + 2 == 0) = false := by simp; omega
  have HTT := Lib.hid hTT
  clear hTT
  go_wp2_with fail
  refine con.mono ?_; rintro e w1 ⟨rfl, rfl⟩
  go_wp2_with fail
  refine con.mono ?_; rintro e w1 ⟨rfl, rfl⟩
  go_wp2_with fail
  refine con.mono ?_; rintro e w1 ⟨rfl, rfl⟩
  clear con
  go_wp2_with fail
  obtain ⟨W, hWW⟩ : ∃ W, wz.alloc (.cells #[.int .u64 0, .int .u64 (T : Int), .int .u64 (T2 : Int), .int .u64 (tq : Int), .int .u64 (t : Int)] 23) = W := ⟨_, rfl⟩
  have hbl : Blk W wz.heap.size 23 [.int .u64 0, .int .u64 (T : Int), .int .u64 (T2 : Int), .int .u64 (tq : Int), .int .u64 (t : Int)] := hWW ▸ Blk.new wz _ _
  have hbz := (Below.refl wz.heap.size wz).alloc (Nat.le_refl _) (.cells #[.int .u64 0, .int .u64 (T : Int), .int .u64 (T2 : Int), .int .u64 (tq : Int), .int .u64 (t : Int)] 23)
  rw [hWW] at hbz
  have HMW := Lib.hid (HM1.out.below hbz (Nat.le_refl _))
  have HWW := Lib.hid (HW1.out.below hbz (Nat.le_refl _))
  have HBW := Lib.hid (HB1.out.trans (hbz.mono HB1.out.size))
  have HBL := Lib.hid hbl
  have HTL := Lib.hid (show ∀ k, k < 5 → ∃ u : Nat, W.cell? ⟨wz.heap.size, k, none⟩ = some (.int .u64 (u : Int)) from fun k hk => by
    rcases (by omega : k = 0 ∨ k = 1 ∨ k = 2 ∨ k = 3 ∨ k = 4) with rfl | rfl | rfl | rfl | rfl
    · exact ⟨0, hbl.cell (i := 0) rfl⟩
    · exact ⟨T, hbl.cell (i := 1) rfl⟩
    · exact ⟨T2, hbl.cell (i := 2) rfl⟩
    · exact ⟨tq, hbl.cell (i := 3) rfl⟩
    · exact ⟨t, hbl.cell (i := 4) rfl⟩)
  try rw [hWW]
  clear hbl hbz hWW HM1 HW1 HB1 htm htm2 h2m h2m2 htl hT2l ew ew2 ew3 hne2
  obtain ⟨r0, hr0⟩ : ∃ r0, wz.heap.size = r0 := ⟨_, rfl⟩
  rw [hr0] at HTL HBL
  try rw [hr0]
  have HR0 := Lib.hid (show r0 < W.heap.size from HBL.out.lt)
  clear hr0 HBL
  go_loopw [50] (fun i wr => ∃ k : Nat, i = .int .i64 k ∧ k ≤ 5 ∧ Below W.heap.size W wr) (fun i _ => 5 - (intOf i).toNat)
  case atStart => exact ⟨0, rfl, Nat.zero_le _, Below.refl _ _⟩
  case round =>
    obtain ⟨k, rfl, hk, hbel⟩ := hrel
    have HB := Lib.hid hbel
    have hsz := hbel.size
    by_cases hlt : k < 5
    · obtain ⟨u, hu⟩ := HTL.out k hlt
      have d0 := (hbel.cell (p := ⟨r0, k, none⟩) HR0.out).trans hu
      have HMr := Lib.hid (HMW.out.below hbel (Nat.le_refl _))
      have HWr := Lib.hid (HWW.out.below hbel (Nat.le_refl _))
      clear hbel hu
      go_wp2_with fail
      refine (wlist_any _ HWr.out HL.out.1 HB5.out u).mono ?_; rintro e w2 ⟨A2, r2, c2, rfl, hR2, hL2, hB2⟩
      have HB2 := Lib.hid (HB.out.trans (hB2.mono hsz))
      have HM2 := Lib.hid (HMr.out.below hB2 (Nat.le_refl _))
      have HR2 := Lib.hid hR2
      have HL2 := Lib.hid hL2
      have hr2 : r2 ≤ 1000 := by have := stateL_len_le HB5.out u; have := HL2.out; have := HL.out.1; omega
      obtain ⟨vv, hvv⟩ : ∃ v, strO (getL (stateL bs u) key) = v := ⟨_, rfl⟩
      obtain ⟨bb, hbb⟩ : ∃ b, (getL (stateL bs u) key).isSome = b := ⟨_, rfl⟩
      have HVV := Lib.hid hvv
      have HBB := Lib.hid hbb
      clear hB2 hR2 hL2 hvv hbb
      go_wp2_with fail
      refine (get_any A2 c2 (stateL bs u) key _ r2 HL2.out (by omega) HR2.out vv bb (by rw [getV_L]; exact HVV.out) (by rw [getB_L]; exact HBB.out)).mono ?_; rintro e w3 ⟨rfl, rfl⟩
      go_wp2_with fail
      refine (mget_any _ HM2.out (by have := HL.out.1; omega) key HKEY.out u vv HVV.out bb HBB.out).mono ?_; rintro e w3 ⟨rfl, hB3⟩
      have HM3 := Lib.hid (HM2.out.below hB3 (Nat.le_refl _))
      have HR3 := Lib.hid (HR2.out.below hB3 (Nat.le_refl _))
      have HB3 := Lib.hid (HB2.out.trans (hB3.mono HB2.out.size))
      clear hB3 HM2 HR2 HB2
      go_wp2_with fail
      refine (mlist_any _ HM3.out (by have := HL.out.1; omega) HL.out.2.2 u).mono ?_; rintro e w4 ⟨A4, r4, c4, rfl, hR4, hL4, hB4, _, hr4⟩
      have HR4 := Lib.hid hR4
      have HL4 := Lib.hid hL4
      have HR5 := Lib.hid (HR3.out.below hB4 (Nat.le_refl _))
      have HB4 := Lib.hid (HB3.out.trans (hB4.mono HB3.out.size))
      clear hR4 hL4 hB4 HM3 HR3 HB3
      go_wp2_with fail
      refine (sameE_any A4 A2 c4 c2 (stateL bs u) (stateL bs u) _ r4 r2 HL4.out HL2.out (by omega) (by omega) HR4.out HR5.out true (by simp)).mono ?_; rintro e w5 ⟨rfl, hB5⟩
      have HB5b := Lib.hid (HB4.out.trans (hB5.mono HB4.out.size))
      have ev : (vv.toList == vv.toList) = true := by simp
      clear hB5 d0
      cases bb
      · go_wp2
        go_roundw
        case rel => exact ⟨k + 1, by go_num, by omega, HB5b.out⟩
        case measure => simp [intOf]; omega
      · go_wp2
        go_roundw
        case rel => exact ⟨k + 1, by go_num, by omega, HB5b.out⟩
        case measure => simp [intOf]; omega
    · have HBF := Lib.hid (HBW.out.trans (hbel.mono HBW.out.size))
      clear hbel
      go_wp2
      go_ret
      exact ⟨by first | rfl | simp, HBF.out⟩
end Go.Proofs.Ytodenkamlbihnaa
