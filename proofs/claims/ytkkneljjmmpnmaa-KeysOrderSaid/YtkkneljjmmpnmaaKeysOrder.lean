/-
  The statement of layer 1 'Compare is a total order, and adjacent ranges join': it returns true whatever the strings are; the world gains nothing but draws. Condition: strings within the model's reach.
-/
import Derived.Test.YtkkneljjmmpnmaaKeysAgree
namespace Go.Proofs.Ytkkneljjmmpnmaa
open Go.RowKit Plain

/-- What Within answers. -/
def inB (key low high : List UInt8) (last : Bool) : Bool := !ltB key low && (last || ltB key high)
theorem within_of (key low high : ByteArray) (last : Bool) (v : Bool) (w : World) (h : inB key.toList low.toList high.toList last = v) :
    Calls Try.prog 17 #[.string key, .string low, .string high, .bool last] w fun e w' => e = .returned (.bool v) ∧ w = w' := by
  subst h; exact within_any key low high last w

theorem inB_join (k a b c : List UInt8) (last : Bool) (hab : ltB b a = false) (hbc : last = true ∨ ltB c b = false) :
    (inB k a b false = true ∧ inB k b c last = false ∧ inB k a c last = true) ∨ (inB k a b false = false ∧ inB k b c last = true ∧ inB k a c last = true) ∨ (inB k a b false = false ∧ inB k b c last = false ∧ inB k a c last = false) := by
  unfold inB
  cases hkb : ltB k b
  · have hka : ltB k a = false := by
      cases h : ltB k a
      · rfl
      · have := lt_le k a b h hab; rw [hkb] at this; exact this.symm
    rw [hka]
    cases last <;> cases h : ltB k c <;> simp
  · have hkc : (last || ltB k c) = true := by
      rcases hbc with h | h
      · rw [h]; rfl
      · rw [lt_le k b c hkb h]; simp
    rw [hkc]
    cases h : ltB k a <;> simp

theorem cmp_cases (x y : List UInt8) : (cmp x y = -1 ∧ cmp y x = 1 ∧ ltB x y = true ∧ (x == y) = false) ∨ (cmp x y = 0 ∧ cmp y x = 0 ∧ ltB x y = false ∧ ltB y x = false ∧ (x == y) = true) ∨ (cmp x y = 1 ∧ cmp y x = -1 ∧ ltB y x = true ∧ (x == y) = false) := by
  unfold cmp
  cases h : ltB x y
  · cases k : ltB y x
    · exact .inr (.inl ⟨rfl, rfl, rfl, rfl, by rw [ltB_tri x y h k]; simp⟩)
    · exact .inr (.inr ⟨rfl, rfl, rfl, by rw [beq_eq_false_iff_ne]; intro e; rw [e, ltB_self] at k; exact absurd k (by decide)⟩)
  · rw [ltB_asymm x y h]
    exact .inl ⟨rfl, rfl, rfl, by rw [beq_eq_false_iff_ne]; intro e; rw [e, ltB_self] at h; exact absurd h (by decide)⟩

/-- Up to 0: not greater. -/
theorem cmp_le (x y : List UInt8) : cmp x y ≤ 0 ↔ ltB y x = false := by
  unfold cmp
  cases h : ltB x y
  · cases k : ltB y x <;> simp
  · simp [ltB_asymm x y h]

set_option maxHeartbeats 1000000 in
theorem order_late (a b c key : ByteArray) (last : Bool) (x x' y z : Int) (w : World) (ha : a.size ≤ 60) (hb : b.size ≤ 60) (hc : c.size ≤ 60) (hk : key.size ≤ 60)
    (hx : (x = -1 ∧ x' = 1 ∧ (a.toList == b.toList) = false) ∨ (x = 0 ∧ x' = 0 ∧ (a.toList == b.toList) = true)) (hy : (y ≤ 0 ∧ z ≤ 0) ∨ (0 < y ∧ last = true))
    (HX : Hid (cmp a.toList b.toList = x)) (HY : Hid (cmp b.toList c.toList = y)) (HZ : Hid (cmp a.toList c.toList = z)) (HV : Hid (cmp b.toList a.toList = x')) (l r m : Bool)
    (HL : Hid (inB key.toList a.toList b.toList false = l)) (HR : Hid (inB key.toList b.toList c.toList last = r)) (HM : Hid (inB key.toList a.toList c.toList last = m))
    (hj : (l = true ∧ r = false ∧ m = true) ∨ (l = false ∧ r = true ∧ m = true) ∨ (l = false ∧ r = false ∧ m = false)) :
    Calls Try.prog 6 #[.string a, .string b, .string c, .string key, .bool last] w fun e w' => e = .returned (.bool true) ∧ Grown w w' := by
  rcases hx with ⟨rfl, rfl, he⟩ | ⟨rfl, rfl, he⟩ <;> rcases hy with ⟨hy, hz⟩ | ⟨hy, rfl⟩ <;> rcases hj with ⟨rfl, rfl, rfl⟩ | ⟨rfl, rfl, rfl⟩ | ⟨rfl, rfl, rfl⟩
  any_goals cases last
  all_goals
    skip
    go_enter Try.func6, Try.ntmps6
    go_wp2_with fail
    refine (cmp_of a b _ _ HX.out).mono ?_
    rintro e w' ⟨rfl, rfl⟩
    go_wp2_with fail
    refine (cmp_of b c _ _ HY.out).mono ?_
    rintro e w' ⟨rfl, rfl⟩
    go_wp2_with fail
    refine (cmp_of a c _ _ HZ.out).mono ?_
    rintro e w' ⟨rfl, rfl⟩
    go_wp2_with fail
    refine (cmp_of b a _ _ HV.out).mono ?_
    rintro e w' ⟨rfl, rfl⟩
    go_wp2_with fail
    refine (within_of key a b false _ _ HL.out).mono ?_
    rintro e w' ⟨rfl, rfl⟩
    go_wp2_with fail
    refine (within_of key b c _ _ _ HR.out).mono ?_
    rintro e w' ⟨rfl, rfl⟩
    go_wp2_with fail
    refine (awake_any _).mono ?_
    rintro e w' ⟨rfl, n, rfl⟩
    go_wp2_with fail
    refine (within_of key a c _ _ _ HM.out).mono ?_
    rintro e w' ⟨rfl, rfl⟩
    go_wp2
    go_ret
    exact ⟨by simp, grown_drewN _ _⟩

end Go.Proofs.Ytkkneljjmmpnmaa
