/-
  The law's awake answers yes; the kit's Mod. Condition: none.
-/
import Derived.Test.YtodenkamlbihnaaModApply
import Derived.Test.YtodenkamlbihnaaModFit
import Derived.Lib.Strings
namespace Go.Proofs.Ytodenkamlbihnaa
open Go.RowKit Go.Deep Plain PlainE
set_option linter.unusedVariables false

theorem mod_neg (k n : Int) (hn : 0 < n) (h : k.tmod n < 0) : k.tmod n + n = k % n := by
  have e : k % n = k.tmod n % n := by
    have := Int.tmod_add_mul_tdiv k n
    rw [← this, Int.add_mul_emod_self_left, this]
  have l := Int.lt_tmod_of_pos k hn
  rw [e, ← Int.add_emod_right, Int.emod_eq_of_lt (by omega) (by omega)]

theorem mod_pos (k n : Int) (hn : 0 < n) (h : 0 ≤ k.tmod n) : k.tmod n = k % n := by
  have e : k % n = k.tmod n % n := by
    have := Int.tmod_add_mul_tdiv k n
    rw [← this, Int.add_mul_emod_self_left, this]
  rw [e, Int.emod_eq_of_lt h (Int.tmod_lt_of_pos k hn)]

theorem ret_int {k : IntKind} {a b : Int} (h : a = b) : Ending.returned (.int k a) = .returned (.int k b) := by rw [h]

set_option maxHeartbeats 400000 in
theorem mod_any (k n : Int) (w : World) (hn : 0 < n) (hn2 : n ≤ 9223372036854775807) :
    Calls Try.prog 10 #[.int .i64 k, .int .i64 n] w fun e w' => e = .returned (.int .i64 (k % n)) ∧ w = w' := by
  go_enter Try.func10, Try.ntmps10
  go_wp2
  · have hl := Int.lt_tmod_of_pos k hn
    have h : k.tmod n < 0 := by assumption
    go_ret
    exact ⟨ret_int (by rw [IntWalk.wrap64_in _ (by omega)]; exact mod_neg k n hn h), rfl⟩
  · have h : 0 ≤ k.tmod n := by assumption
    go_ret
    exact ⟨ret_int (mod_pos k n hn h), rfl⟩


def wA1 : Wri := (⟨#[97]⟩, ⟨#[49]⟩, false)
def wA2 : Wri := (⟨#[97]⟩, ⟨#[50]⟩, false)
theorem awk_chk1 : chk [wA1] = 0 := by simp [chk, bigW, badW, wA1, ByteArray.size]
theorem awk_chk2 : chk [wA2] = 0 := by simp [chk, bigW, badW, wA2, ByteArray.size]
theorem awk_get : getL (stateL ([] ++ [[wA1]] ++ [[wA2]]) 1) ⟨#[97]⟩ = some ⟨#[49]⟩ := by
  rw [stateL_old (by simp), stateL_new (by simp), getL_applyL (stateL_asc _ _)]
  have : lastW [wA1] ⟨#[97]⟩ = some wA1 := by
    have := lastW_snoc [] wA1 ⟨#[97]⟩
    rw [if_pos (show wA1.1 = ⟨#[97]⟩ from rfl)] at this
    exact this
  rw [this]; rfl
theorem awk_wm {x : Nat} (h : IsWm (fun _ => none) ([] ++ [[wA1]] ++ [[wA2]]).length x) : x = 2 := by
  rcases h.2.2 with h | ⟨kl, h⟩
  · exact h
  · cases h
set_option maxRecDepth 100000 in
set_option maxHeartbeats 2000000 in
theorem awake_any (w : World) :
    Calls Try.prog 9 #[] w fun e w' => e = .returned (.bool true) ∧ Below w.heap.size w w' := by
  have sz1 : ∀ x ∈ [wA1], Sz x := fun x hx => by
    simp at hx; subst hx; exact ⟨by unfold maxLen; decide, by unfold maxLen; decide⟩
  have sz2 : ∀ x ∈ [wA2], Sz x := fun x hx => by
    simp at hx; subst hx; exact ⟨by unfold maxLen; decide, by unfold maxLen; decide⟩
  have HS := Lib.hid sz1
  have HS2 := Lib.hid sz2
  have hmem : ∀ (Z : Nat → Prop) (V V' : World), Kept Z V V' → (∀ i, Z i → w.heap.size ≤ i) → w.heap.size ≤ V.heap.size → Below w.heap.size V V' := fun _ _ _ hk hz hs => hk.below hs hz
  have HM := Lib.hid hmem
  clear sz1 sz2 hmem
  go_enter Try.func9, Try.ntmps9
  go_wp2_with fail
  refine (mnew_any _).mono ?_; rintro e w1 ⟨p, rfl, hM1, hB1⟩
  have hs1 := hB1.size
  have hb2 := (Below.refl w1.heap.size w1).alloc (Nat.le_refl _) (.cells #[.string ⟨#[97]⟩, .string ⟨#[49]⟩, .bool false] 44)
  have hb2z : (w1.alloc (.cells #[.string ⟨#[97]⟩, .string ⟨#[49]⟩, .bool false] 44)).heap.size = w1.heap.size + 1 := nblk_alloc _ _
  have HM1 := Lib.hid (hM1.below hb2 (Nat.le_refl _))
  have HB1 := Lib.hid (hB1.trans (hb2.mono hs1))
  have HSZ1 := Lib.hid hb2z
  clear hM1 hB1 hb2 hb2z
  go_wp2_with fail
  refine (mapply_any _ HM1.out (by simp) (by omega) _ 1 [wA1] 1 rfl (by omega) (RW.one w1 wA1 _) HS.out awk_chk1).mono ?_; rintro e w2 ⟨rfl, hM2, hK2⟩
  have hb2 := HM.out _ _ _ hK2 (fun i hi => (HM1.out.lt hi).1) (by have := HSZ1.out; omega)
  have HB2 := Lib.hid (HB1.out.trans hb2)
  have hs2 := hK2.size
  have hs2' : w.heap.size ≤ w2.heap.size := by have := HSZ1.out; omega
  have hb3 := (Below.refl w2.heap.size w2).alloc (Nat.le_refl _) (.cells #[.string ⟨#[97]⟩, .string ⟨#[50]⟩, .bool false] 44)
  have hb3z : (w2.alloc (.cells #[.string ⟨#[97]⟩, .string ⟨#[50]⟩, .bool false] 44)).heap.size = w2.heap.size + 1 := nblk_alloc _ _
  have HM2 := Lib.hid (hM2.below hb3 (Nat.le_refl _))
  have HB3 := Lib.hid (HB2.out.trans (hb3.mono hs2'))
  have HSZ2 := Lib.hid hb3z
  have HS2' := Lib.hid hs2'
  clear hM2 hK2 hb2 hs2 hb3 hb3z HM1 HB1 HSZ1 hs2' hs1
  go_wp2_with fail
  refine (mapply_any _ HM2.out (by simp) (by omega) _ 1 [wA2] 1 rfl (by omega) (RW.one w2 wA2 _) HS2.out awk_chk2).mono ?_; rintro e w3 ⟨rfl, hM3, hK3⟩
  have hb3 := HM.out _ _ _ hK3 (fun i hi => (HM2.out.lt hi).1) (by have := HSZ2.out; have := HS2'.out; omega)
  have hs3 := hK3.size
  have HS3 := Lib.hid (show w.heap.size ≤ w3.heap.size by have := HSZ2.out; have := HS2'.out; omega)
  have HM3 := Lib.hid hM3
  have HB4 := Lib.hid (HB3.out.trans hb3)
  clear hM3 hK3 hb3 hs3 HM2 HB2 HB3 HSZ2 HS2'
  go_wp2_with fail
  refine (mget_any _ HM3.out (by simp) ⟨#[97]⟩ (by unfold maxLen; decide) 1 ⟨#[49]⟩ (by rw [awk_get]; rfl) true (by rw [awk_get]; rfl)).mono ?_; rintro e w4 ⟨rfl, hB⟩
  have HM4 := Lib.hid (HM3.out.below hB (Nat.le_refl _))
  have HB5 := Lib.hid (HB4.out.trans (hB.mono HS3.out))
  have HS4 := Lib.hid (Nat.le_trans HS3.out hB.size)
  clear hB HM3 HB4 HS3
  go_wp2_with fail
  refine (mraise_any _ HM4.out 1).mono ?_; rintro e w5 ⟨x, hx, rfl, hM5, hK5⟩
  obtain rfl := awk_wm hx
  have hb5 := HM.out _ _ _ hK5 (fun i hi => (HM4.out.lt hi).1) HS4.out
  have HM5 := Lib.hid hM5
  have HB6 := Lib.hid (HB5.out.trans hb5)
  have HS5 := Lib.hid (Nat.le_trans HS4.out hK5.size)
  clear hx hM5 hK5 hb5 HM4 HB5 HS4
  have e1 : decide (1 ≤ 2) = true := rfl
  go_wp2_with fail
  refine (mfloor_any _ HM5.out).mono ?_; rintro e w6 ⟨rfl, rfl⟩
  go_wp2_with fail
  refine (mraise_any _ HM5.out 3).mono ?_; rintro e w6 ⟨x, hx, rfl, hM6, hK6⟩
  obtain rfl := awk_wm hx
  have hb6 := HM.out _ _ _ hK6 (fun i hi => (HM5.out.lt hi).1) HS5.out
  have HB7 := Lib.hid (HB6.out.trans hb6)
  clear hx hM6 hK6 hb6
  go_wp2
  go_ret
  exact ⟨by first | rfl | simp, HB7.out⟩
end Go.Proofs.Ytodenkamlbihnaa
