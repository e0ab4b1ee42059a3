/-
  The statements of layer 1 over single strings: each returns true whatever the strings are; the world gains nothing but draws. Condition: strings within the model's reach.
-/
import Derived.Test.YtkkneljjmmpnmaaKeysWalks
namespace Go.Proofs.Ytkkneljjmmpnmaa
open Go.RowKit Plain

theorem grown_drewN (w : World) : ∀ n : Nat, Grown w (w.drewN n)
  | 0 => Grown.refl _
  | n + 1 => by
    have h : w.drewN (n + 1) = (w.drewN n).drew := rfl
    rw [h]; exact (grown_drewN w n).drew

theorem app_toList (a : ByteArray) : (a ++ ⟨#[0]⟩ : ByteArray).toList = a.toList ++ [0] := by
  rw [Lib.toList_data, Lib.toList_data]; simp

set_option maxHeartbeats 400000 in
theorem lawSuccessorIsNext (a b : ByteArray) (ha : a.size ≤ maxLen) (hb : b.size ≤ maxLen) (w : World) :
    Calls Try.prog 5 #[.string a, .string b] w fun e w' => e = .returned (.bool true) ∧ Grown w w' := by
  unfold maxLen at ha hb
  by_cases h1 : 100 < a.size
  · go_enter Try.func5, Try.ntmps5
    go_wp2_with (go_at_call 8; refine (awake_any _).mono ?_; rintro e w' ⟨rfl, n, rfl⟩)
    go_ret
    exact ⟨rfl, grown_drewN _ _⟩
  · by_cases h2 : 100 < b.size
    · go_enter Try.func5, Try.ntmps5
      go_wp2_with (go_at_call 8; refine (awake_any _).mono ?_; rintro e w' ⟨rfl, n, rfl⟩)
      go_ret
      exact ⟨rfl, grown_drewN _ _⟩
    · have hc1 : cmp a.toList (a ++ ⟨#[0]⟩ : ByteArray).toList = -1 := by
        rw [app_toList]; unfold cmp; rw [if_pos (lt_succ _)]
      have hc2 : (Op.bytesLess b.toList a.toList || b.toList == a.toList) = false → cmp (a ++ ⟨#[0]⟩ : ByteArray).toList b.toList ≤ 0 := by
        intro h
        have h' : ltB a.toList b.toList = true := by rw [← gt_ltB, h]; rfl
        rw [app_toList]; unfold cmp
        rw [succ_le _ _ h']
        split <;> simp
      have HC1 := Lib.hid hc1
      have HC2 := Lib.hid hc2
      clear hc1 hc2
      cases hle : (Op.bytesLess b.toList a.toList || b.toList == a.toList)
      · have h3 := HC2.out hle
        have h3' : (a.size + 1 : Nat) ≤ 200 := by omega
        go_enter Try.func5, Try.ntmps5
        go_wp2_with fail
        refine (succ_any _ _ (by omega)).mono ?_
        rintro e w' ⟨rfl, rfl⟩
        go_wp2_with fail
        refine (awake_any _).mono ?_
        rintro e w' ⟨rfl, n, rfl⟩
        go_wp2_with fail
        refine (cmp_any _ _ _).mono ?_
        rintro e w' ⟨rfl, rfl⟩
        rw [HC1.out]
        go_wp2_with fail
        refine (cmp_any _ _ _).mono ?_
        rintro e w' ⟨rfl, rfl⟩
        go_wp2
        go_ret
        exact ⟨by simp, grown_drewN _ _⟩
      · go_enter Try.func5, Try.ntmps5
        go_wp2_with fail
        refine (succ_any _ _ (by omega)).mono ?_
        rintro e w' ⟨rfl, rfl⟩
        go_wp2_with fail
        refine (awake_any _).mono ?_
        rintro e w' ⟨rfl, n, rfl⟩
        go_wp2_with fail
        refine (cmp_any _ _ _).mono ?_
        rintro e w' ⟨rfl, rfl⟩
        rw [HC1.out]
        go_wp2
        go_ret
        exact ⟨by simp, grown_drewN _ _⟩

theorem le_true (p q : List UInt8) (h : ltB q p = false) : (Op.bytesLess p q || p == q) = true := by
  have := gt_ltB p q; rw [h] at this; simpa only [Bool.not_eq_false'] using this
theorem le_false (p q : List UInt8) (h : ltB q p = true) : (Op.bytesLess p q || p == q) = false := by
  have := gt_ltB p q; rw [h] at this; simpa only [Bool.not_eq_true'] using this

theorem sepFacts (x y : ByteArray) (h : ltB x.toList y.toList = true) : ∃ s, sepB x y = s ∧ (Op.bytesLess s.toList x.toList || s.toList == x.toList) = false ∧ (Op.bytesLess s.toList y.toList || s.toList == y.toList) = true ∧
    1 ≤ s.size ∧ s.size ≤ y.size ∧ ((y.extract 0 s.size).toList == s.toList) = true ∧ (Op.bytesLess (y.extract 0 (s.size - 1)).toList x.toList || (y.extract 0 (s.size - 1)).toList == x.toList) = true ∧ ¬ s = ByteArray.empty ∧ (1 : Int) ≤ (s.size : Int) ∧ (s.size : Int) - 1 ≤ (y.size : Int) := by
  have hc := com_lt _ _ h
  rw [len_toList] at hc
  have hs : (sepB x y).toList = y.toList.take (com x.toList y.toList + 1) := by rw [sepB_toList]; unfold sep; rw [if_pos h]
  have hz : (sepB x y).size = com x.toList y.toList + 1 := by rw [← len_toList, hs, List.length_take, len_toList]; omega
  refine ⟨_, rfl, le_false _ _ (by rw [hs]; exact sep_lt _ _ h), le_true _ _ (by rw [hs]; exact take_le _ _), by omega, by omega, ?_, le_true _ _ ?_, (fun e => by rw [e] at hz; simp at hz), by omega, by omega⟩
  · rw [take_toList, hz, hs]; simp
  · rw [take_toList, hz, Nat.add_sub_cancel]; exact sep_short _ _ _ (Nat.le_refl _)

set_option maxHeartbeats 400000 in
theorem lawSeparate (a b : ByteArray) (ha' : a.size ≤ maxLen) (hb' : b.size ≤ maxLen) (w : World) :
    Calls Try.prog 4 #[.string a, .string b] w fun e w' => e = .returned (.bool true) ∧ Grown w w' := by
  have ha := ha'
  have hb := hb'
  unfold maxLen at ha hb
  by_cases h1 : 100 < a.size
  · go_enter Try.func4, Try.ntmps4
    go_wp2_with (go_at_call 8; refine (awake_any _).mono ?_; rintro e w' ⟨rfl, n, rfl⟩)
    go_ret
    exact ⟨rfl, grown_drewN _ _⟩
  by_cases h2 : 100 < b.size
  · go_enter Try.func4, Try.ntmps4
    go_wp2_with (go_at_call 8; refine (awake_any _).mono ?_; rintro e w' ⟨rfl, n, rfl⟩)
    go_ret
    exact ⟨rfl, grown_drewN _ _⟩
  cases hlt : ltB a.toList b.toList
  · cases hgt : ltB b.toList a.toList
    · have he := data_inj (ltB_tri _ _ hlt hgt)
      subst he
      have e1 := bytesLess_ltB a.toList a.toList
      rw [hlt] at e1
      have hs : sepB a a = ByteArray.empty := by unfold sepB; rw [if_neg (by rw [hlt]; simp)]
      clear hlt hgt
      go_enter Try.func4, Try.ntmps4
      go_wp2_with fail
      refine (sep_of a a _ _ ha' ha' hs).mono ?_
      rintro e w' ⟨rfl, n, rfl⟩
      go_wp2_with fail
      refine (awake_any _).mono ?_
      rintro e w' ⟨rfl, n2, rfl⟩
      go_wp2
      go_ret
      exact ⟨by simp, grown_drewN _ _⟩
    · clear hlt
      have hlt := hgt
      have e1 : (Op.bytesLess a.toList b.toList || a.toList == b.toList) = false := by have := gt_ltB a.toList b.toList; rw [hgt] at this; simpa using this
      have e2 : (b.toList == a.toList) = false := by rw [beq_eq_false_iff_ne]; intro e; rw [e, ltB_self] at hgt; exact absurd hgt (by decide)
      clear hgt
      obtain ⟨s, hs, f1, f2, f3, f4, f5, f6, f7, f8, f9⟩ := sepFacts b a hlt
      have HS := Lib.hid hs
      clear hs hlt
      go_enter Try.func4, Try.ntmps4
      go_wp2_with fail
      refine (sep_of b a s _ hb' ha' HS.out).mono ?_
      rintro e w' ⟨rfl, n, rfl⟩
      go_wp2_with fail
      refine (awake_any _).mono ?_
      rintro e w' ⟨rfl, n2, rfl⟩
      go_wp2_with fail
      go_ret
      exact ⟨by simp, grown_drewN _ _⟩

  · have e1 : Op.bytesLess a.toList b.toList = true := by rw [bytesLess_ltB, hlt]
    have e2 : (a.toList == b.toList) = false := by rw [beq_eq_false_iff_ne]; intro e; rw [e, ltB_self] at hlt; exact absurd hlt (by decide)
    obtain ⟨s, hs, f1, f2, f3, f4, f5, f6, f7, f8, f9⟩ := sepFacts a b hlt
    have HS := Lib.hid hs
    clear hs hlt
    go_enter Try.func4, Try.ntmps4
    go_wp2_with fail
    refine (sep_of a b s _ ha' hb' HS.out).mono ?_
    rintro e w' ⟨rfl, n, rfl⟩
    go_wp2_with fail
    refine (awake_any _).mono ?_
    rintro e w' ⟨rfl, n2, rfl⟩
    go_wp2_with fail
    go_ret
    exact ⟨by simp, grown_drewN _ _⟩


end Go.Proofs.Ytkkneljjmmpnmaa
