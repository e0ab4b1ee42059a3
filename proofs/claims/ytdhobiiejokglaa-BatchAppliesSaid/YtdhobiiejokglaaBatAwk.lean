/-
  The law's awake answers yes. Condition: none.
-/
import Derived.Test.YtdhobiiejokglaaBatNor
import Derived.Lib.Strings
namespace Go.Proofs.Ytdhobiiejokglaa
open Go.RowKit Go.Deep Plain PlainE
set_option linter.unusedVariables false

def wB1 : Wri := (⟨#[98]⟩, ⟨#[49]⟩, false)
def wA2 : Wri := (⟨#[97]⟩, ⟨#[50]⟩, false)
def wB3 : Wri := (⟨#[98]⟩, ⟨#[]⟩, true)
theorem awk_norm : normL [wB1, wA2, wB3] = [wA2, wB3] := by
  simp [normL, keysB, putL, run, stp, geE, neE, lastW, PlainE.eqk, ltB, wB1, wA2, wB3]
theorem awk_norm2 : normL [wA2, wB3] = [wA2, wB3] := by
  simp [normL, keysB, putL, run, stp, geE, neE, lastW, PlainE.eqk, ltB, wA2, wB3]
theorem awk_chk : chk [wB1, wA2, wB3] = 0 := by
  simp [chk, bigW, badW, wB1, wA2, wB3, ByteArray.size]
theorem awk_chk2 : chk [wA2, wB3] = 0 := by
  simp [chk, bigW, badW, wA2, wB3, ByteArray.size]
theorem RW.new (w : World) (l : List Wri) (o : TypeId) (hl : l.length ≤ 1000) {cs : Array Value} (hcs : cs = ⟨flatW l⟩) {n : Nat} (hn : l.length = n) (hp : 0 < n) : RW (w.alloc (.cells cs o)) (some ⟨w.heap.size, 0, none⟩) n l := by
  subst hcs hn
  exact ⟨Nat.le_refl _, by unfold maxLen; omega, fun h => (by cases h), fun _ => ⟨_, _, rfl, by simp, fun j u hu => by
    rw [Nat.zero_add]
    exact (Blk.new w (flatW l) o).cell hu⟩⟩
set_option maxHeartbeats 2000000 in
theorem awake_any (w : World) :
    Calls Try.prog 9 #[] w fun e w' => e = .returned (.bool true) ∧ Below w.heap.size w w' := by
  have sz : ∀ x ∈ [wB1, wA2, wB3], Sz x := fun x hx => by
    simp at hx
    rcases hx with rfl | rfl | rfl <;> exact ⟨by unfold maxLen; decide, by unfold maxLen; decide⟩
  have sz2 : ∀ x ∈ [wA2, wB3], Sz x := fun x hx => sz x (by simp at hx ⊢; exact .inr hx)
  have n1 : nrm [wB1, wA2, wB3] = [wA2, wB3] := (nrm_ok awk_chk).trans awk_norm
  have n2 : nrm [wA2, wB3] = [wA2, wB3] := (nrm_ok awk_chk2).trans awk_norm2
  have HS := Lib.hid sz
  have HS2 := Lib.hid sz2
  have HN1 := Lib.hid n1
  have HN2 := Lib.hid n2
  clear sz sz2 n1 n2
  go_enter Try.func9, Try.ntmps9
  go_wp2_with fail
  refine (normalize_any _ 3 [wB1, wA2, wB3] _ 3 rfl (by omega) (RW.new w [wB1, wA2, wB3] _ (by decide) rfl rfl (by omega)) HS.out 0 awk_chk 2 (by rw [HN1.out]; rfl)).mono ?_; rintro e w1 ⟨A1, c1, rfl, hR1, hB1⟩
  rw [HN1.out] at hR1
  have HR1 := Lib.hid hR1
  have HB1 := Lib.hid (((Below.refl w.heap.size w).alloc (Nat.le_refl _) _).trans (hB1.mono (by rw [nblk_alloc]; omega)))
  have hs1 := HB1.out.size
  clear hR1 hB1
  go_wp2_with fail
  have hb2 := (Below.refl w1.heap.size w1).alloc (Nat.le_refl _) (.cells ⟨flatW [wA2, wB3]⟩ 38)
  refine (sameW_any A1 _ c1 2 [wA2, wB3] [wA2, wB3] _ 2 2 rfl rfl (by omega) (by omega) (HR1.out.below hb2 (Nat.le_refl _)) (RW.new w1 [wA2, wB3] _ (by decide) rfl rfl (by omega)) true (by simp)).mono ?_; rintro e w2 ⟨rfl, hB2⟩
  have hB2b := hb2.trans (hB2.mono (show w1.heap.size ≤ (w1.alloc _).heap.size by rw [nblk_alloc]; omega))
  have HR2 := Lib.hid (HR1.out.below hB2b (Nat.le_refl _))
  have HB2 := Lib.hid (HB1.out.trans (hB2b.mono hs1))
  have hs2 := HB2.out.size
  clear hB2 hB2b hb2 HR1
  go_wp2_with fail
  refine (normal_any A1 c1 [wA2, wB3] _ 2 rfl (by omega) HR2.out HS2.out true (by rw [awk_chk2, HN2.out]; simp)).mono ?_; rintro e w3 ⟨rfl, hB3⟩
  have HB3 := Lib.hid (HB2.out.trans (hB3.mono hs2))
  clear hB3
  go_wp2
  go_ret
  exact ⟨by first | rfl | simp, HB3.out⟩
end Go.Proofs.Ytdhobiiejokglaa
