/-
  What the functions of package keys and their references answer: contracts for every string; the world stays as it was, but for draws. Condition: strings no longer than the model's reach where a sum of lengths is taken.
-/
import Derived.Test.YtkkneljjmmpnmaaRows
import Derived.Test.YtkkneljjmmpnmaaKeysPlain
import Derived.WalkKit
import Derived.WalkSpells
import Derived.WalkLawsBesides
import Derived.Lib.Hide
import Derived.Lib.Strings
import Derived.Deep.QuietTactic
import Derived.BigQuiet
namespace Go.Proofs.Ytkkneljjmmpnmaa
open Go.RowKit Plain

set_option maxHeartbeats 400000 in
theorem validKey_any (s : ByteArray) (w : World) (hs : s.size ≤ maxLen) :
    Calls Try.prog 9 #[.string s] w fun e w' => e = .returned (.bool (decide (s.size ≤ 32))) ∧ w = w' := by
  unfold maxLen at hs
  go_enter Try.func9, Try.ntmps9
  go_wp2
  go_ret
  exact ⟨by simp; omega, rfl⟩

set_option maxHeartbeats 400000 in
theorem cmp_any (a b : ByteArray) (w : World) :
    Calls Try.prog 13 #[.string a, .string b] w fun e w' => e = .returned (.int .i64 (cmp a.toList b.toList)) ∧ w = w' := by
  have e1 := bytesLess_ltB a.toList b.toList
  unfold cmp
  cases h : ltB a.toList b.toList
  · rw [h] at e1
    cases k : ltB b.toList a.toList
    · have he : (a.toList == b.toList) = true := by rw [ltB_tri _ _ h k]; simp
      clear h k
      go_enter Try.func13, Try.ntmps13
      go_wp2
      go_ret
      exact ⟨by simp, rfl⟩
    · have he : (a.toList == b.toList) = false := by
        cases hx : a.toList == b.toList
        · rfl
        · rw [beq_iff_eq] at hx; rw [hx, ltB_self] at k; exact absurd k (by decide)
      clear h k
      go_enter Try.func13, Try.ntmps13
      go_wp2
      go_ret
      exact ⟨by simp, rfl⟩
  · rw [h] at e1
    clear h
    go_enter Try.func13, Try.ntmps13
    go_wp2
    go_ret
    exact ⟨by simp, rfl⟩

theorem size_one (x : UInt8) : (⟨#[x]⟩ : ByteArray).size = 1 := rfl

set_option maxHeartbeats 400000 in
theorem succ_any (a : ByteArray) (w : World) (hs : a.size ≤ 140737488355328) :
    Calls Try.prog 14 #[.string a] w fun e w' => e = .returned (.string (a ++ ⟨#[0]⟩)) ∧ w = w' := by
  have hadd : ∀ W, (Op.stringOp .add a ⟨#[0]⟩).run Try.prog W = .ok (.string (a ++ ⟨#[0]⟩)) W := fun W => run_string_add_sum W a _ (by rw [size_one]; omega)
  go_enter Try.func14, Try.ntmps14
  go_wp2
  go_ret
  exact ⟨rfl, rfl⟩

theorem ret_int {k : IntKind} {a b : Int} (h : a = b) : Ending.returned (.int k a) = .returned (.int k b) := by rw [h]
theorem len_toList (a : ByteArray) : a.toList.length = a.size := by rw [Lib.toList_data, ← Lib.size_eq]
theorem getD_toList (a : ByteArray) (k : Nat) (h : k < a.size) : a.toList.getD k 0 = a[k] := by
  rw [Lib.toList_data, List.getD_eq_getElem?_getD, List.getElem?_eq_getElem (by rw [← Lib.size_eq]; exact h)]
  simp only [Option.getD_some, Array.getElem_toList]
  rfl

set_option maxHeartbeats 400000 in
theorem common_any (a b : ByteArray) (w : World) (ha : a.size ≤ maxLen) :
    Calls Try.prog 20 #[.string a, .string b] w fun e w' => e = .returned (.int .i64 (com a.toList b.toList)) ∧ ∃ n, w' = w.drewN n := by
  unfold maxLen at ha
  have hcl := com_le a.toList b.toList
  rw [len_toList, len_toList] at hcl
  have hst := com_step a.toList b.toList
  have HS := Lib.hid hst
  clear hst
  go_enter Try.func20, Try.ntmps20
  go_wp2
  go_loopw [5] (fun i wr => ∃ k n : Nat, k ≤ com a.toList b.toList ∧ i = .int .i64 k ∧ wr = w.drewN n) (fun i _ => com a.toList b.toList - (intOf i).toNat)
  case atStart => exact ⟨0, 0, by omega, rfl, rfl⟩
  case round =>
    obtain ⟨k, n, hk, rfl, rfl⟩ := hrel
    have hs := HS.out k hk
    rw [len_toList, len_toList] at hs
    by_cases h1 : k < a.size
    · by_cases h2 : k < b.size
      · rw [getD_toList a k h1, getD_toList b k h2] at hs
        by_cases h3 : a[k] = b[k]
        · have hne : k ≠ com a.toList b.toList := fun e => hs.1 e ⟨h1, h2, h3⟩
          have hlt : k < com a.toList b.toList := by omega
          have h4 : ((a[k].toNat : Int) == (b[k].toNat : Int)) = true := by rw [h3]; simp
          clear hs h3 hne
          go_wp2_with fail
          go_quiet (fail)
          go_wp2
          go_roundw
          case rel => exact ⟨k + 1, n + nq, by omega, by go_num, rfl⟩
          case measure => simp [intOf]; omega
        · have he : k = com a.toList b.toList := hs.2 (fun h => h3 h.2.2)
          have h4 : ((a[k].toNat : Int) == (b[k].toNat : Int)) = false := by
            rw [beq_eq_false_iff_ne]; intro e; exact h3 (u8_eq (by omega))
          have HE := Lib.hid he
          clear hs h3 he
          go_wp2_with fail
          go_quiet (fail)
          go_wp2
          go_ret
          exact ⟨ret_int (by rw [← HE.out]), n + nq, by rw [World.drewN_drewN]⟩
      · have he : k = com a.toList b.toList := by omega
        have HE := Lib.hid he
        have h5 : decide (k < b.size) = false := by simpa using h2
        clear hs he
        go_wp2_with fail
        go_quiet (fail)
        go_wp2
        go_ret
        exact ⟨ret_int (by rw [← HE.out]), n + nq, by rw [World.drewN_drewN]⟩
    · have he : k = com a.toList b.toList := by omega
      have HE := Lib.hid he
      have h5 : decide (k < a.size) = false := by simpa using h1
      clear hs he
      go_wp2_with fail
      go_quiet (fail)
      go_wp2
      go_ret
      exact ⟨ret_int (by rw [← HE.out]), n + nq, by rw [World.drewN_drewN]⟩

theorem take_toList (b : ByteArray) (k : Nat) : (b.extract 0 k).toList = b.toList.take k := by
  rw [Lib.extract_toList, Lib.toList_data]; simp

/-- The separator as a string. -/
def sepB (a b : ByteArray) : ByteArray := if ltB a.toList b.toList then b.extract 0 (com a.toList b.toList + 1) else ByteArray.empty
theorem sepB_toList (a b : ByteArray) : (sepB a b).toList = sep a.toList b.toList := by
  unfold sepB sep; split
  · exact take_toList _ _
  · rw [Lib.toList_data]; rfl

set_option maxHeartbeats 400000 in
theorem sep_any (a b : ByteArray) (w : World) (ha : a.size ≤ maxLen) (hb : b.size ≤ maxLen) :
    Calls Try.prog 15 #[.string a, .string b] w fun e w' => e = .returned (.string (sepB a b)) ∧ ∃ n, w' = w.drewN n := by
  have e1 := bytesLess_ltB a.toList b.toList
  have hc := com_lt a.toList b.toList
  rw [len_toList] at hc
  have ha' := ha
  have hb' := hb
  unfold maxLen at ha' hb'
  unfold sepB
  cases h : ltB a.toList b.toList
  · rw [h] at e1
    clear hc h
    go_enter Try.func15, Try.ntmps15
    go_wp2
    go_ret
    exact ⟨rfl, 0, rfl⟩
  · have hlt := hc h
    rw [h] at e1
    clear hc h
    go_enter Try.func15, Try.ntmps15
    go_wp2_with (go_at_call 20; refine (common_any _ _ _ ha).mono ?_; rintro e w' ⟨rfl, n, rfl⟩)
    go_ret
    exact ⟨rfl, _, rfl⟩

set_option maxHeartbeats 400000 in
theorem within_any (key low high : ByteArray) (last : Bool) (w : World) :
    Calls Try.prog 17 #[.string key, .string low, .string high, .bool last] w fun e w' => e = .returned (.bool (!ltB key.toList low.toList && (last || ltB key.toList high.toList))) ∧ w = w' := by
  rw [← bytesLess_ltB, ← bytesLess_ltB]
  cases last <;> cases h : Op.bytesLess key.toList low.toList
  all_goals
    go_enter Try.func17, Try.ntmps17
    go_wp2
    go_ret
    exact ⟨by simp, rfl⟩

set_option maxHeartbeats 400000 in
theorem refWithin_any (key low high : ByteArray) (last : Bool) (w : World) :
    Calls Try.prog 18 #[.string key, .string low, .string high, .bool last] w fun e w' => e = .returned (.bool (!ltB key.toList low.toList && (last || ltB key.toList high.toList))) ∧ w = w' := by
  rw [← bytesLess_ltB, ← bytesLess_ltB]
  cases last <;> cases h : Op.bytesLess key.toList low.toList
  all_goals
    go_enter Try.func18, Try.ntmps18
    go_wp2
    go_ret
    exact ⟨by simp, rfl⟩

set_option maxHeartbeats 400000 in
theorem refValidKey_any (s : ByteArray) (w : World) (hs : s.size ≤ maxLen) :
    Calls Try.prog 10 #[.string s] w fun e w' => e = .returned (.bool (decide (s.size ≤ 32))) ∧ w = w' := by
  unfold maxLen at hs
  go_enter Try.func10, Try.ntmps10
  go_wp2
  go_ret
  exact ⟨by simp; omega, rfl⟩

set_option maxHeartbeats 400000 in
theorem validValue_any (s : ByteArray) (w : World) (hs : s.size ≤ maxLen) :
    Calls Try.prog 11 #[.string s] w fun e w' => e = .returned (.bool (decide (s.size ≤ 64))) ∧ w = w' := by
  unfold maxLen at hs
  go_enter Try.func11, Try.ntmps11
  go_wp2
  go_ret
  exact ⟨by simp; omega, rfl⟩

set_option maxHeartbeats 400000 in
theorem refValidValue_any (s : ByteArray) (w : World) (hs : s.size ≤ maxLen) :
    Calls Try.prog 12 #[.string s] w fun e w' => e = .returned (.bool (decide (s.size ≤ 64))) ∧ w = w' := by
  unfold maxLen at hs
  go_enter Try.func12, Try.ntmps12
  go_wp2
  go_ret
  exact ⟨by simp; omega, rfl⟩

theorem gt_ltB (x y : List UInt8) : (!(Op.bytesLess x y || x == y)) = ltB y x := by
  rw [bytesLess_ltB]
  cases h : ltB x y
  · cases k : ltB y x
    · rw [ltB_tri x y h k]; simp
    · have : ¬ x = y := fun e => by rw [e, ltB_self] at k; exact absurd k (by decide)
      simpa using this
  · rw [ltB_asymm x y h]; simp

set_option maxHeartbeats 400000 in
theorem refSep_any (a b : ByteArray) (w : World) (hb : b.size ≤ 4611686018427387904) :
    Calls Try.prog 16 #[.string a, .string b] w fun e w' => e = .returned (.string (sepB a b)) ∧ w = w' := by
  have hc := com_lt a.toList b.toList
  rw [len_toList] at hc
  unfold sepB
  cases h : ltB a.toList b.toList
  · have HT : Hid (∀ k, (!(Op.bytesLess (b.extract 0 k).toList a.toList || (b.extract 0 k).toList == a.toList)) = false) := Lib.hid fun k => by rw [gt_ltB, take_toList]; exact ge_take _ _ k h
    clear hc h
    go_enter Try.func16, Try.ntmps16
    go_wp2
    go_loop [5] (fun i => ∃ k : Nat, k ≤ b.size + 1 ∧ i = .int .i64 k) (fun i => b.size + 1 - (intOf i).toNat)
    case atStart => exact ⟨0, by omega, rfl⟩
    case round =>
      obtain ⟨k, hk, rfl⟩ := hrel
      by_cases hlt : k ≤ b.size
      · have ht := HT.out k
        go_wp2
        go_round
        case rel => exact ⟨k + 1, by omega, by go_num⟩
        case measure => simp [intOf]; omega
      · go_wp2
        go_ret
        exact ⟨rfl, rfl⟩
  · have hlt := hc h
    have HT : Hid (∀ k, k ≤ com a.toList b.toList → (!(Op.bytesLess (b.extract 0 k).toList a.toList || (b.extract 0 k).toList == a.toList)) = false) := Lib.hid fun k hk => by rw [gt_ltB, take_toList]; exact sep_short _ _ k hk
    have HL : Hid ((!(Op.bytesLess (b.extract 0 (com a.toList b.toList + 1)).toList a.toList || (b.extract 0 (com a.toList b.toList + 1)).toList == a.toList)) = true) := Lib.hid (by rw [gt_ltB, take_toList]; exact sep_lt _ _ h)
    clear hc h
    go_enter Try.func16, Try.ntmps16
    go_wp2
    go_loop [5] (fun i => ∃ k : Nat, k ≤ com a.toList b.toList + 1 ∧ i = .int .i64 k) (fun i => b.size + 1 - (intOf i).toNat)
    case atStart => exact ⟨0, by omega, rfl⟩
    case round =>
      obtain ⟨k, hk, rfl⟩ := hrel
      by_cases hs : k ≤ com a.toList b.toList
      · have ht := HT.out k hs
        go_wp2
        go_round
        case rel => exact ⟨k + 1, by omega, by go_num⟩
        case measure => simp [intOf]; omega
      · obtain rfl : k = com a.toList b.toList + 1 := by omega
        have ht := HL.out
        go_wp2
        go_ret
        exact ⟨rfl, rfl⟩

theorem sep_of (a b c : ByteArray) (w : World) (ha : a.size ≤ maxLen) (hb : b.size ≤ maxLen) (h : sepB a b = c) :
    Calls Try.prog 15 #[.string a, .string b] w fun e w' => e = .returned (.string c) ∧ ∃ n, w' = w.drewN n := by
  subst h; exact sep_any a b w ha hb

theorem data_inj {a b : ByteArray} (h : a.toList = b.toList) : a = b := by
  rw [Lib.toList_data, Lib.toList_data] at h
  obtain ⟨⟨a⟩⟩ := a
  obtain ⟨⟨b⟩⟩ := b
  simp only at h
  rw [h]

theorem sep_apple : sepB ⟨#[97, 112, 112, 108, 101]⟩ ⟨#[98, 97, 110, 97, 110, 97]⟩ = ⟨#[98]⟩ := by
  apply data_inj; rw [sepB_toList, Lib.toList_data, Lib.toList_data, Lib.toList_data]; rfl
theorem sep_car : sepB ⟨#[99, 97, 114]⟩ ⟨#[99, 97, 114, 112, 101, 116]⟩ = ⟨#[99, 97, 114, 112]⟩ := by
  apply data_inj; rw [sepB_toList, Lib.toList_data, Lib.toList_data, Lib.toList_data]; rfl
theorem cmp_ab (w : World) :
    Calls Try.prog 13 #[.string ⟨#[97]⟩, .string ⟨#[98]⟩] w fun e w' => e = .returned (.int .i64 (-1)) ∧ w = w' := by
  have h := cmp_any ⟨#[97]⟩ ⟨#[98]⟩ w
  have e : cmp (⟨#[97]⟩ : ByteArray).toList (⟨#[98]⟩ : ByteArray).toList = -1 := by rw [Lib.toList_data, Lib.toList_data]; rfl
  rw [e] at h; exact h
theorem validKey_nil (w : World) :
    Calls Try.prog 9 #[.string ⟨#[]⟩] w fun e w' => e = .returned (.bool true) ∧ w = w' := by
  have h := validKey_any ⟨#[]⟩ w (by unfold maxLen; exact Nat.zero_le _)
  have e : decide ((⟨#[]⟩ : ByteArray).size ≤ 32) = true := rfl
  rw [e] at h; exact h

set_option maxHeartbeats 400000 in
theorem awake_any (w : World) :
    Calls Try.prog 8 #[] w fun e w' => e = .returned (.bool true) ∧ ∃ n, w' = w.drewN n := by
  have k1 : (⟨#[97, 112, 112, 108, 101]⟩ : ByteArray).size ≤ maxLen := by unfold maxLen; decide
  have k2 : (⟨#[98, 97, 110, 97, 110, 97]⟩ : ByteArray).size ≤ maxLen := by unfold maxLen; decide
  have k3 : (⟨#[99, 97, 114]⟩ : ByteArray).size ≤ maxLen := by unfold maxLen; decide
  have k4 : (⟨#[99, 97, 114, 112, 101, 116]⟩ : ByteArray).size ≤ maxLen := by unfold maxLen; decide
  go_enter Try.func8, Try.ntmps8
  go_wp2_with fail
  refine (sep_of _ _ _ _ k1 k2 sep_apple).mono ?_
  rintro e w' ⟨rfl, n, rfl⟩
  go_wp2_with fail
  refine (sep_of _ _ _ _ k3 k4 sep_car).mono ?_
  rintro e w' ⟨rfl, n2, rfl⟩
  go_wp2_with fail
  refine (cmp_ab _).mono ?_
  rintro e w' ⟨rfl, rfl⟩
  go_wp2_with fail
  refine (validKey_nil _).mono ?_
  rintro e w' ⟨rfl, rfl⟩
  go_wp2
  go_ret
  exact ⟨by simp, _, rfl⟩

end Go.Proofs.Ytkkneljjmmpnmaa
