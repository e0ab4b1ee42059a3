/-
  The statements of layer 1 'all functions agree with the reference' and 'Compare is a total order': each returns true whatever the strings are; the world gains nothing but draws. Condition: strings within the model's reach.
-/
import Derived.Test.YtkkneljjmmpnmaaKeysLaws
namespace Go.Proofs.Ytkkneljjmmpnmaa
open Go.RowKit Plain

theorem cmp_of (a b : ByteArray) (v : Int) (w : World) (h : cmp a.toList b.toList = v) :
    Calls Try.prog 13 #[.string a, .string b] w fun e w' => e = .returned (.int .i64 v) ∧ w = w' := by
  subst h; exact cmp_any a b w

set_option maxHeartbeats 1000000 in
theorem lawAgree (a b c : ByteArray) (last : Bool) (ha' : a.size ≤ maxLen) (hb' : b.size ≤ maxLen) (hc' : c.size ≤ maxLen) (w : World) :
    Calls Try.prog 3 #[.string a, .string b, .string c, .bool last] w fun e w' => e = .returned (.bool true) ∧ Grown w w' := by
  have ha := ha'
  have hb := hb'
  have hc := hc'
  unfold maxLen at ha hb hc
  by_cases h1 : 200 < a.size
  · skip
    go_enter Try.func3, Try.ntmps3
    go_wp2_with (go_at_call 8; refine (awake_any _).mono ?_; rintro e w' ⟨rfl, n, rfl⟩)
    go_ret
    exact ⟨rfl, grown_drewN _ _⟩
  by_cases h2 : 200 < b.size
  · skip
    go_enter Try.func3, Try.ntmps3
    go_wp2_with (go_at_call 8; refine (awake_any _).mono ?_; rintro e w' ⟨rfl, n, rfl⟩)
    go_ret
    exact ⟨rfl, grown_drewN _ _⟩
  by_cases h3 : 200 < c.size
  · skip
    go_enter Try.func3, Try.ntmps3
    go_wp2_with (go_at_call 8; refine (awake_any _).mono ?_; rintro e w' ⟨rfl, n, rfl⟩)
    go_ret
    exact ⟨rfl, grown_drewN _ _⟩
  have hadd : ∀ W, (Op.stringOp .add a ⟨#[0]⟩).run Try.prog W = .ok (.string (a ++ ⟨#[0]⟩)) W := fun W => run_string_add_sum W a _ (by rw [size_one]; omega)
  cases hlt : ltB a.toList b.toList
  · cases hgt : ltB b.toList a.toList
    · have HC : Hid (cmp a.toList b.toList = 0) := Lib.hid (by unfold cmp; rw [hlt, hgt]; rfl)
      have e1 : Op.bytesLess a.toList b.toList = false := by rw [bytesLess_ltB, hlt]
      have e2 : (a.toList == b.toList) = true := by rw [ltB_tri _ _ hlt hgt]; simp
      clear hlt hgt
      go_enter Try.func3, Try.ntmps3
      go_wp2_with fail
      refine (awake_any _).mono ?_
      rintro e w' ⟨rfl, n, rfl⟩
      go_wp2_with fail
      refine (validKey_any a _ ha').mono ?_
      rintro e w' ⟨rfl, rfl⟩
      go_wp2_with fail
      refine (refValidKey_any a _ ha').mono ?_
      rintro e w' ⟨rfl, rfl⟩
      go_wp2_with fail
      refine (validValue_any b _ hb').mono ?_
      rintro e w' ⟨rfl, rfl⟩
      go_wp2_with fail
      refine (refValidValue_any b _ hb').mono ?_
      rintro e w' ⟨rfl, rfl⟩
      go_wp2_with fail
      refine (cmp_of a b _ _ HC.out).mono ?_
      rintro e w' ⟨rfl, rfl⟩
      go_wp2_with fail
      refine (succ_any a _ (by omega)).mono ?_
      rintro e w' ⟨rfl, rfl⟩
      go_wp2_with fail
      refine (sep_any a b _ ha' hb').mono ?_
      rintro e w' ⟨rfl, n2, rfl⟩
      go_wp2_with fail
      refine (refSep_any a b _ (by omega)).mono ?_
      rintro e w' ⟨rfl, rfl⟩
      go_wp2_with fail
      refine (within_any a b c last _).mono ?_
      rintro e w' ⟨rfl, rfl⟩
      go_wp2_with fail
      refine (refWithin_any a b c last _).mono ?_
      rintro e w' ⟨rfl, rfl⟩
      go_wp2
      go_ret
      exact ⟨by simp, grown_drewN _ _⟩
    · have HC : Hid (cmp a.toList b.toList = 1) := Lib.hid (by unfold cmp; rw [hlt, hgt]; rfl)
      have e1 : Op.bytesLess a.toList b.toList = false := by rw [bytesLess_ltB, hlt]
      have e2 : (a.toList == b.toList) = false := by rw [beq_eq_false_iff_ne]; intro e; rw [e, ltB_self] at hgt; exact absurd hgt (by decide)
      clear hlt hgt
      go_enter Try.func3, Try.ntmps3
      go_wp2_with fail
      refine (awake_any _).mono ?_
      rintro e w' ⟨rfl, n, rfl⟩
      go_wp2_with fail
      refine (validKey_any a _ ha').mono ?_
      rintro e w' ⟨rfl, rfl⟩
      go_wp2_with fail
      refine (refValidKey_any a _ ha').mono ?_
      rintro e w' ⟨rfl, rfl⟩
      go_wp2_with fail
      refine (validValue_any b _ hb').mono ?_
      rintro e w' ⟨rfl, rfl⟩
      go_wp2_with fail
      refine (refValidValue_any b _ hb').mono ?_
      rintro e w' ⟨rfl, rfl⟩
      go_wp2_with fail
      refine (cmp_of a b _ _ HC.out).mono ?_
      rintro e w' ⟨rfl, rfl⟩
      go_wp2_with fail
      refine (succ_any a _ (by omega)).mono ?_
      rintro e w' ⟨rfl, rfl⟩
      go_wp2_with fail
      refine (sep_any a b _ ha' hb').mono ?_
      rintro e w' ⟨rfl, n2, rfl⟩
      go_wp2_with fail
      refine (refSep_any a b _ (by omega)).mono ?_
      rintro e w' ⟨rfl, rfl⟩
      go_wp2_with fail
      refine (within_any a b c last _).mono ?_
      rintro e w' ⟨rfl, rfl⟩
      go_wp2_with fail
      refine (refWithin_any a b c last _).mono ?_
      rintro e w' ⟨rfl, rfl⟩
      go_wp2
      go_ret
      exact ⟨by simp, grown_drewN _ _⟩
  · have HC : Hid (cmp a.toList b.toList = -1) := Lib.hid (by unfold cmp; rw [hlt]; rfl)
    have e1 : Op.bytesLess a.toList b.toList = true := by rw [bytesLess_ltB, hlt]
    clear hlt
    go_enter Try.func3, Try.ntmps3
    go_wp2_with fail
    refine (awake_any _).mono ?_
    rintro e w' ⟨rfl, n, rfl⟩
    go_wp2_with fail
    refine (validKey_any a _ ha').mono ?_
    rintro e w' ⟨rfl, rfl⟩
    go_wp2_with fail
    refine (refValidKey_any a _ ha').mono ?_
    rintro e w' ⟨rfl, rfl⟩
    go_wp2_with fail
    refine (validValue_any b _ hb').mono ?_
    rintro e w' ⟨rfl, rfl⟩
    go_wp2_with fail
    refine (refValidValue_any b _ hb').mono ?_
    rintro e w' ⟨rfl, rfl⟩
    go_wp2_with fail
    refine (cmp_of a b _ _ HC.out).mono ?_
    rintro e w' ⟨rfl, rfl⟩
    go_wp2_with fail
    refine (succ_any a _ (by omega)).mono ?_
    rintro e w' ⟨rfl, rfl⟩
    go_wp2_with fail
    refine (sep_any a b _ ha' hb').mono ?_
    rintro e w' ⟨rfl, n2, rfl⟩
    go_wp2_with fail
    refine (refSep_any a b _ (by omega)).mono ?_
    rintro e w' ⟨rfl, rfl⟩
    go_wp2_with fail
    refine (within_any a b c last _).mono ?_
    rintro e w' ⟨rfl, rfl⟩
    go_wp2_with fail
    refine (refWithin_any a b c last _).mono ?_
    rintro e w' ⟨rfl, rfl⟩
    go_wp2
    go_ret
    exact ⟨by simp, grown_drewN _ _⟩

end Go.Proofs.Ytkkneljjmmpnmaa
