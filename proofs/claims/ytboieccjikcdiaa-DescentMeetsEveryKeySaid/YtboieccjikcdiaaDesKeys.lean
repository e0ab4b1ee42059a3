/-
  What Compare and Within of package keys answer, and Separator of its reference. Condition: keys within the model's reach.
-/
import Derived.Test.YtboieccjikcdiaaRows
import Derived.Test.YtboieccjikcdiaaKeysPlain
import Derived.Test.YtboieccjikcdiaaMemPlain
import Derived.WalkSpells
import Derived.WalkLawsBesides
import Derived.Lib.Strings
namespace Go.Proofs.Ytboieccjikcdiaa
open Go.RowKit Go.Deep Plain
set_option linter.unusedVariables false

theorem size_one (x : UInt8) : (⟨#[x]⟩ : ByteArray).size = 1 := rfl

theorem len_toList (a : ByteArray) : a.toList.length = a.size := by rw [Lib.toList_data, ← Lib.size_eq]

theorem getD_toList (a : ByteArray) (k : Nat) (h : k < a.size) : a.toList.getD k 0 = a[k] := by
  rw [Lib.toList_data, List.getD_eq_getElem?_getD, List.getElem?_eq_getElem (by rw [← Lib.size_eq]; exact h)]
  simp only [Option.getD_some, Array.getElem_toList]
  rfl

theorem take_toList (b : ByteArray) (k : Nat) : (b.extract 0 k).toList = b.toList.take k := by
  rw [Lib.extract_toList, Lib.toList_data]; simp

/-- The separator as a string. -/
def sepB (a b : ByteArray) : ByteArray := if ltB a.toList b.toList then b.extract 0 (com a.toList b.toList + 1) else ByteArray.empty

theorem sepB_toList (a b : ByteArray) : (sepB a b).toList = sep a.toList b.toList := by
  unfold sepB sep; split
  · exact take_toList _ _
  · rw [Lib.toList_data]; rfl

set_option maxHeartbeats 400000 in
theorem within_any (key low high : ByteArray) (last : Bool) (w : World) :
    Calls Try.prog 55 #[.string key, .string low, .string high, .bool last] w fun e w' => e = .returned (.bool (!ltB key.toList low.toList && (last || ltB key.toList high.toList))) ∧ w = w' := by
  rw [← bytesLess_ltB, ← bytesLess_ltB]
  cases last <;> cases h : Op.bytesLess key.toList low.toList
  all_goals
    go_enter Try.func55, Try.ntmps55
    go_wp2
    go_ret
    exact ⟨by simp, rfl⟩

theorem gt_ltB (x y : List UInt8) : (!(Op.bytesLess x y || x == y)) = ltB y x := by
  rw [bytesLess_ltB]
  cases h : ltB x y
  · cases k : ltB y x
    · rw [ltB_tri x y h k]; simp
    · have : ¬ x = y := fun e => by rw [e, ltB_self] at k; exact absurd k (by decide)
      simpa using this
  · rw [ltB_asymm x y h]; simp

set_option maxHeartbeats 400000 in
theorem refSep_any (a b : ByteArray) (w : World) (hb : b.size ≤ 4611686018427387904) :
    Calls Try.prog 49 #[.string a, .string b] w fun e w' => e = .returned (.string (sepB a b)) ∧ w = w' := by
  have hc := com_lt a.toList b.toList
  rw [len_toList] at hc
  unfold sepB
  cases h : ltB a.toList b.toList
  · have HT : Hid (∀ k, (!(Op.bytesLess (b.extract 0 k).toList a.toList || (b.extract 0 k).toList == a.toList)) = false) := Lib.hid fun k => by rw [gt_ltB, take_toList]; exact ge_take _ _ k h
    clear hc h
    go_enter Try.func49, Try.ntmps49
    go_wp2
    go_loop [5] (fun i => ∃ k : Nat, k ≤ b.size + 1 ∧ i = .int .i64 k) (fun i => b.size + 1 - (intOf i).toNat)
    case atStart => exact ⟨0, by omega, rfl⟩
    case round =>
      obtain ⟨k, hk, rfl⟩ := hrel
      by_cases hlt : k ≤ b.size
      · have ht := HT.out k
        go_wp2
        go_round
        case rel => exact ⟨k + 1, by omega, by go_num⟩
        case measure => simp [intOf]; omega
      · go_wp2
        go_ret
        exact ⟨rfl, rfl⟩
  · have hlt := hc h
    have HT : Hid (∀ k, k ≤ com a.toList b.toList → (!(Op.bytesLess (b.extract 0 k).toList a.toList || (b.extract 0 k).toList == a.toList)) = false) := Lib.hid fun k hk => by rw [gt_ltB, take_toList]; exact sep_short _ _ k hk
    have HL : Hid ((!(Op.bytesLess (b.extract 0 (com a.toList b.toList + 1)).toList a.toList || (b.extract 0 (com a.toList b.toList + 1)).toList == a.toList)) = true) := Lib.hid (by rw [gt_ltB, take_toList]; exact sep_lt _ _ h)
    clear hc h
    go_enter Try.func49, Try.ntmps49
    go_wp2
    go_loop [5] (fun i => ∃ k : Nat, k ≤ com a.toList b.toList + 1 ∧ i = .int .i64 k) (fun i => b.size + 1 - (intOf i).toNat)
    case atStart => exact ⟨0, by omega, rfl⟩
    case round =>
      obtain ⟨k, hk, rfl⟩ := hrel
      by_cases hs : k ≤ com a.toList b.toList
      · have ht := HT.out k hs
        go_wp2
        go_round
        case rel => exact ⟨k + 1, by omega, by go_num⟩
        case measure => simp [intOf]; omega
      · obtain rfl : k = com a.toList b.toList + 1 := by omega
        have ht := HL.out
        go_wp2
        go_ret
        exact ⟨rfl, rfl⟩

theorem data_inj {a b : ByteArray} (h : a.toList = b.toList) : a = b := by
  rw [Lib.toList_data, Lib.toList_data] at h
  obtain ⟨⟨a⟩⟩ := a
  obtain ⟨⟨b⟩⟩ := b
  simp only at h
  rw [h]

end Go.Proofs.Ytboieccjikcdiaa
