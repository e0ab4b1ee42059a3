/-
  The statement of layer 1 'Compare is a total order, and adjacent ranges join', put together: it returns true whatever the strings are; the world gains nothing but draws. Condition: strings within the model's reach.
-/
import Derived.Test.YtkkneljjmmpnmaaKeysOrder
namespace Go.Proofs.Ytkkneljjmmpnmaa
open Go.RowKit Plain

set_option maxHeartbeats 1000000 in
theorem order_early (a b c key : ByteArray) (last : Bool) (x x' y z : Int) (w : World) (ha : a.size ≤ 60) (hb : b.size ≤ 60) (hc : c.size ≤ 60) (hk : key.size ≤ 60)
    (hx : (x = -1 ∧ x' = 1 ∧ (a.toList == b.toList) = false ∧ 0 < y ∧ last = false) ∨ (x = 0 ∧ x' = 0 ∧ (a.toList == b.toList) = true ∧ 0 < y ∧ last = false) ∨ (x = 1 ∧ x' = -1 ∧ (a.toList == b.toList) = false))
    (HX : Hid (cmp a.toList b.toList = x)) (HY : Hid (cmp b.toList c.toList = y)) (HZ : Hid (cmp a.toList c.toList = z)) (HV : Hid (cmp b.toList a.toList = x')) :
    Calls Try.prog 6 #[.string a, .string b, .string c, .string key, .bool last] w fun e w' => e = .returned (.bool true) ∧ Grown w w' := by
  rcases hx with ⟨rfl, rfl, he, hy, rfl⟩ | ⟨rfl, rfl, he, hy, rfl⟩ | ⟨rfl, rfl, he⟩
  all_goals
    skip
    go_enter Try.func6, Try.ntmps6
    go_wp2_with fail
    refine (cmp_of a b _ _ HX.out).mono ?_
    rintro e w' ⟨rfl, rfl⟩
    go_wp2_with fail
    refine (cmp_of b c _ _ HY.out).mono ?_
    rintro e w' ⟨rfl, rfl⟩
    go_wp2_with fail
    refine (cmp_of a c _ _ HZ.out).mono ?_
    rintro e w' ⟨rfl, rfl⟩
    go_wp2_with fail
    refine (cmp_of b a _ _ HV.out).mono ?_
    rintro e w' ⟨rfl, rfl⟩
    go_wp2_with fail
    refine (awake_any _).mono ?_
    rintro e w' ⟨rfl, n, rfl⟩
    go_wp2
    go_ret
    exact ⟨by simp, grown_drewN _ _⟩

set_option maxHeartbeats 1000000 in
theorem lawOrder (a b c key : ByteArray) (last : Bool) (ha' : a.size ≤ maxLen) (hb' : b.size ≤ maxLen) (hc' : c.size ≤ maxLen) (hk' : key.size ≤ maxLen) (w : World) :
    Calls Try.prog 6 #[.string a, .string b, .string c, .string key, .bool last] w fun e w' => e = .returned (.bool true) ∧ Grown w w' := by
  have ha := ha'
  have hb := hb'
  have hc := hc'
  have hk := hk'
  unfold maxLen at ha hb hc hk
  by_cases h1 : 60 < a.size
  · skip
    go_enter Try.func6, Try.ntmps6
    go_wp2_with (go_at_call 8; refine (awake_any _).mono ?_; rintro e w' ⟨rfl, n, rfl⟩)
    go_ret
    exact ⟨rfl, grown_drewN _ _⟩
  by_cases h2 : 60 < b.size
  · skip
    go_enter Try.func6, Try.ntmps6
    go_wp2_with (go_at_call 8; refine (awake_any _).mono ?_; rintro e w' ⟨rfl, n, rfl⟩)
    go_ret
    exact ⟨rfl, grown_drewN _ _⟩
  by_cases h3 : 60 < c.size
  · skip
    go_enter Try.func6, Try.ntmps6
    go_wp2_with (go_at_call 8; refine (awake_any _).mono ?_; rintro e w' ⟨rfl, n, rfl⟩)
    go_ret
    exact ⟨rfl, grown_drewN _ _⟩
  by_cases h4 : 60 < key.size
  · skip
    go_enter Try.func6, Try.ntmps6
    go_wp2_with (go_at_call 8; refine (awake_any _).mono ?_; rintro e w' ⟨rfl, n, rfl⟩)
    go_ret
    exact ⟨rfl, grown_drewN _ _⟩
  have ga : a.size ≤ 60 := by omega
  have gb : b.size ≤ 60 := by omega
  have gc : c.size ≤ 60 := by omega
  have gk : key.size ≤ 60 := by omega
  have late : ∀ x x' : Int, ((x = -1 ∧ x' = 1 ∧ (a.toList == b.toList) = false) ∨ (x = 0 ∧ x' = 0 ∧ (a.toList == b.toList) = true)) → cmp a.toList b.toList = x → cmp b.toList a.toList = x' → ltB b.toList a.toList = false →
      Calls Try.prog 6 #[.string a, .string b, .string c, .string key, .bool last] w fun e w' => e = .returned (.bool true) ∧ Grown w w' := by
    intro x x' hx e e' hab
    by_cases hy : cmp b.toList c.toList ≤ 0
    · have hbc := (cmp_le _ _).1 hy
      exact order_late a b c key last x x' _ _ w ga gb gc gk hx (.inl ⟨hy, (cmp_le _ _).2 (le_le _ _ _ hab hbc)⟩) (Lib.hid e) (Lib.hid rfl) (Lib.hid rfl) (Lib.hid e') _ _ _ (Lib.hid rfl) (Lib.hid rfl) (Lib.hid rfl) (inB_join _ _ _ _ _ hab (.inr hbc))
    · have hy' : 0 < cmp b.toList c.toList := by omega
      cases last
      · exact order_early a b c key false x x' _ _ w ga gb gc gk (hx.elim (fun ⟨p, q, r⟩ => .inl ⟨p, q, r, hy', rfl⟩) (fun ⟨p, q, r⟩ => .inr (.inl ⟨p, q, r, hy', rfl⟩))) (Lib.hid e) (Lib.hid rfl) (Lib.hid rfl) (Lib.hid e')
      · exact order_late a b c key true x x' _ _ w ga gb gc gk hx (.inr ⟨hy', rfl⟩) (Lib.hid e) (Lib.hid rfl) (Lib.hid rfl) (Lib.hid e') _ _ _ (Lib.hid rfl) (Lib.hid rfl) (Lib.hid rfl) (inB_join _ _ _ _ _ hab (.inl rfl))
  rcases cmp_cases a.toList b.toList with ⟨e, e', h, k⟩ | ⟨e, e', h, h', k⟩ | ⟨e, e', h, k⟩
  · exact late _ _ (.inl ⟨rfl, rfl, k⟩) e e' (ltB_asymm _ _ h)
  · exact late _ _ (.inr ⟨rfl, rfl, k⟩) e e' h'
  · exact order_early a b c key last _ _ _ _ w ga gb gc gk (.inr (.inr ⟨rfl, rfl, k⟩)) (Lib.hid e) (Lib.hid rfl) (Lib.hid rfl) (Lib.hid e')

end Go.Proofs.Ytkkneljjmmpnmaa
