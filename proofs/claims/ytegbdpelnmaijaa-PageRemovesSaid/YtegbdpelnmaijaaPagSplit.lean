/-
  What Split of package page answers for a leaf, and the statements' own example 'awake'. Condition: rows of at most 2^40 slots.
-/
import Derived.Test.YtegbdpelnmaijaaPagIns
import Derived.Test.YtegbdpelnmaijaaPagChk
import Derived.Deep.RegionHeld3
namespace Go.Proofs.Ytegbdpelnmaijaa
open Go.RowKit Go.Deep Plain
set_option linter.unusedVariables false

theorem len_toList (a : ByteArray) : a.toList.length = a.size := by rw [Lib.toList_data, ← Lib.size_eq]
theorem getD_toList (a : ByteArray) (k : Nat) (h : k < a.size) : a.toList.getD k 0 = a[k] := by
  rw [Lib.toList_data, List.getD_eq_getElem?_getD, List.getElem?_eq_getElem (by rw [← Lib.size_eq]; exact h)]
  simp only [Option.getD_some, Array.getElem_toList]
  rfl
theorem ret_int2 {k : IntKind} {a b : Int} (h : a = b) : Ending.returned (.int k a) = .returned (.int k b) := by rw [h]

set_option maxHeartbeats 400000 in
theorem common_any (a b : ByteArray) (w : World) (ha : a.size ≤ maxLen) :
    Calls Try.prog 40 #[.string a, .string b] w fun e w' => e = .returned (.int .i64 (com a.toList b.toList)) ∧ ∃ n, w' = w.drewN n := by
  unfold maxLen at ha
  have hcl := com_le a.toList b.toList
  rw [len_toList, len_toList] at hcl
  have hst := com_step a.toList b.toList
  have HS := Lib.hid hst
  clear hst
  go_enter Try.func40, Try.ntmps40
  go_wp2
  go_loopw [5] (fun i wr => ∃ k n : Nat, k ≤ com a.toList b.toList ∧ i = .int .i64 k ∧ wr = w.drewN n) (fun i _ => com a.toList b.toList - (intOf i).toNat)
  case atStart => exact ⟨0, 0, by omega, rfl, rfl⟩
  case round =>
    obtain ⟨k, n, hk, rfl, rfl⟩ := hrel
    have hs := HS.out k hk
    rw [len_toList, len_toList] at hs
    by_cases h1 : k < a.size
    · by_cases h2 : k < b.size
      · rw [getD_toList a k h1, getD_toList b k h2] at hs
        by_cases h3 : a[k] = b[k]
        · have hne : k ≠ com a.toList b.toList := fun e => hs.1 e ⟨h1, h2, h3⟩
          have hlt : k < com a.toList b.toList := by omega
          have h4 : ((a[k].toNat : Int) == (b[k].toNat : Int)) = true := by rw [h3]; simp
          clear hs h3 hne
          go_wp2_with fail
          go_quiet (fail)
          go_wp2
          go_roundw
          case rel => exact ⟨k + 1, n + nq, by omega, by go_num, rfl⟩
          case measure => simp [intOf]; omega
        · have he : k = com a.toList b.toList := hs.2 (fun h => h3 h.2.2)
          have h4 : ((a[k].toNat : Int) == (b[k].toNat : Int)) = false := by
            rw [beq_eq_false_iff_ne]; intro e; exact h3 (u8_eq (by omega))
          have HE := Lib.hid he
          clear hs h3 he
          go_wp2_with fail
          go_quiet (fail)
          go_wp2
          go_ret
          exact ⟨ret_int2 (by rw [← HE.out]), n + nq, by rw [World.drewN_drewN]⟩
      · have he : k = com a.toList b.toList := by omega
        have HE := Lib.hid he
        have h5 : decide (k < b.size) = false := by simpa using h2
        clear hs he
        go_wp2_with fail
        go_quiet (fail)
        go_wp2
        go_ret
        exact ⟨ret_int2 (by rw [← HE.out]), n + nq, by rw [World.drewN_drewN]⟩
    · have he : k = com a.toList b.toList := by omega
      have HE := Lib.hid he
      have h5 : decide (k < a.size) = false := by simpa using h1
      clear hs he
      go_wp2_with fail
      go_quiet (fail)
      go_wp2
      go_ret
      exact ⟨ret_int2 (by rw [← HE.out]), n + nq, by rw [World.drewN_drewN]⟩

theorem take_toList (b : ByteArray) (k : Nat) : (b.extract 0 k).toList = b.toList.take k := by
  rw [Lib.extract_toList, Lib.toList_data]; simp

/-- The separator as a string. -/
def sepB (a b : ByteArray) : ByteArray := if ltB a.toList b.toList then b.extract 0 (com a.toList b.toList + 1) else ByteArray.empty
theorem sepB_toList (a b : ByteArray) : (sepB a b).toList = sep a.toList b.toList := by
  unfold sepB sep; split
  · exact take_toList _ _
  · rw [Lib.toList_data]; rfl

set_option maxHeartbeats 400000 in
theorem sep_any (a b s : ByteArray) (w : World) (ha : a.size ≤ maxLen) (hb : b.size ≤ maxLen) (hs : sepB a b = s) :
    Calls Try.prog 39 #[.string a, .string b] w fun e w' => e = .returned (.string s) ∧ Below w.heap.size w w' := by
  subst hs
  have e1 := bytesLess_ltB a.toList b.toList
  have hc := com_lt a.toList b.toList
  rw [len_toList] at hc
  have ha' := ha
  have hb' := hb
  unfold maxLen at ha' hb'
  unfold sepB
  cases h : ltB a.toList b.toList
  · rw [h] at e1
    clear hc h
    go_enter Try.func39, Try.ntmps39
    go_wp2
    go_ret
    exact ⟨rfl, Below.refl _ _⟩
  · have hlt := hc h
    rw [h] at e1
    clear hc h
    go_enter Try.func39, Try.ntmps39
    go_wp2_with (go_at_call 40; refine (common_any _ _ _ ha).mono ?_; rintro e w' ⟨rfl, n, rfl⟩)
    go_ret
    exact ⟨rfl, below_drewN (Below.refl _ _) _⟩

set_option maxHeartbeats 1000000 in
theorem separatorAt_leaf (lv : Int) (A : Option Addr) (c : Nat) (hi : ByteArray) (la : Bool) (rt : Nat) (xs : List Sl) (m : Nat) (w : World) (n : Nat) (hn : xs.length = n) (h40 : n ≤ 1099511627776) (hR : Rs w A c xs) (x y : Sl) (hm : 0 < m) (hx : xs[m - 1]? = some x) (hy : xs[m]? = some y) (hxs : x.1.size ≤ maxLen) (hys : y.1.size ≤ maxLen) (hlv : lv = 0) (s : ByteArray) (hs : sepB x.1 y.1 = s) :
    Calls Try.prog 37 #[.agg #[.int .i64 lv, .slice A n c, .string hi, .bool la, .int .u64 (rt : Int)], .int .i64 (m : Int)] w fun e w' => e = .returned (.string s) ∧ Below w.heap.size w w' := by
  subst hlv
  obtain ⟨P0, B0, Z0⟩ := box_one w (.int .i64 0 :: .slice A n c :: .string hi :: .bool la :: .int .u64 (rt : Int) :: []) 25
  have hmn : m < n := by have := (List.getElem?_eq_some_iff.1 hy).1; omega
  obtain ⟨g, off, rfl, hg, hcell⟩ := (hR.below B0 (Nat.le_refl _)).at (by omega)
  obtain ⟨c0, c1⟩ := hcell (m - 1) x hx
  obtain ⟨d0, d1⟩ := hcell m y hy
  clear hcell hx hy P0 B0 Z0 hR
  have HS := Lib.hid hs
  clear hs
  go_enter Try.func37, Try.ntmps37
  go_wp2_with fail
  refine (sep_any _ _ _ _ hxs hys HS.out).mono ?_; rintro e w1 ⟨rfl, hB1⟩
  have hB2 := ((Below.refl w.heap.size w).alloc (Nat.le_refl _) _).trans (hB1.mono (by simp))
  go_wp2
  go_ret
  exact ⟨rfl, hB2⟩
end Go.Proofs.Ytegbdpelnmaijaa
