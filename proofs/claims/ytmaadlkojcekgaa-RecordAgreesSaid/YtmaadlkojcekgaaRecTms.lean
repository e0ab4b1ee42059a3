/-
  What Times of package record and of its reference answer for any chain: the stamps that are not pending, in a row of the call's own. Condition: chains of at most 2^40 versions.
-/
import Derived.Test.YtmaadlkojcekgaaRecFns
import Derived.Test.YtmaadlkojcekgaaRecSame
namespace Go.Proofs.Ytmaadlkojcekgaa
open Go.RowKit Go.Deep Plain
set_option linter.unusedVariables false

set_option maxHeartbeats 2000000 in
theorem times_any (A : Option Addr) (c : Nat) (xs : List Ve) (w : World) (n : Nat) (hn : xs.length = n) (h40 : n ≤ 1099511627776) (hR : Rv w A c xs) (m : Nat) (hm : (tms xs).length = m) :
    Calls Try.prog 23 #[.slice A n c] w fun e w' => ∃ A' c', e = .returned (.slice A' m c') ∧ Rw w' A' c' (tms xs) ∧ Below w.heap.size w w' := by
  have HR := Lib.hid hR
  have HM := Lib.hid hm
  clear hR hm
  go_enter Try.func23, Try.ntmps23
  go_wp2_with fail
  go_loopw [8, 3] (fun i v wr => ∃ (j k : Nat), j ≤ n ∧ k ≤ j ∧ i = .int .i64 j ∧ wr.ownsRow w.heap.size 23 1 v k (words (tms (xs.take j))) ∧ Below w.heap.size w wr) (fun i _ _ => n - (intOf i).toNat)
  case atStart => exact ⟨0, 0, Nat.zero_le _, Nat.le_refl _, rfl, World.ownsRow_nil _ _ _ _, Below.refl _ _⟩
  case round =>
    obtain ⟨j, k, hj, hkj, rfl, hown, hbel⟩ := hrel
    have HL := Lib.hid hbel
    have HO := Lib.hid hown
    have hsz := hbel.size
    by_cases hlt : j < n
    · obtain ⟨x, hx⟩ : ∃ x, xs[j]? = some x := ⟨_, List.getElem?_eq_getElem (by omega)⟩
      obtain ⟨g, off, rfl, hg, hcell⟩ := (HR.out.below hbel (Nat.le_refl _)).at (by omega)
      obtain ⟨c0, c1, c2⟩ := hcell j x hx
      obtain ⟨p, hp⟩ : ∃ p, (x.1 == 0) = p := ⟨_, rfl⟩
      have htk := tms_take hx
      have P0 := Blk.new wr [.int .u64 (x.1 : Int), .string x.2.1, .bool x.2.2] 27
      have hz := nblk_alloc wr (.cells #[.int .u64 (x.1 : Int), .string x.2.1, .bool x.2.2] 27)
      have HP0 := Lib.hid P0
      have HPP := Lib.hid hp
      have HTK := Lib.hid htk
      have HZ := Lib.hid hz
      clear hcell hx hbel hp hown htk P0 hz
      go_wp2_with fail
      refine (pending_any x p HPP.out _).mono ?_; rintro e w1 ⟨rfl, hB1⟩
      have hP1 := HP0.out.below hB1 (by rw [HZ.out]; omega)
      have x0 := hP1.cell (i := 0) rfl
      have hB1' := boxed HL.out hsz hB1
      have hO1 := own_below (HO.out.alloc _) hB1 (Nat.le_refl _)
      have hs1 := hB1'.size
      have HB1 := Lib.hid hB1'
      have HO1 := Lib.hid hO1
      clear hP1 hB1 hB1' hO1 HO HL HZ
      cases p
      · have h0 : x.1 ≠ 0 := by simpa using HPP.out
        have htk := HTK.out
        rw [if_neg h0] at htk
        have HT2 := Lib.hid htk
        clear h0 htk
        go_wp2_with (at_builtin; go_must (refine wpList_appw rfl (.tmp 15) (.tmp 18) rfl w.heap.size _ k (tms (xs.take j)) rfl (HO1.out.alloc _) w1.heap.size 0 x.1 rfl ((Blk.new w1 [.int .u64 (x.1 : Int)] 23).cell (i := 0) rfl) (by omega) (by rw [nblk_alloc]; omega) ?_))
        intro v2 w2 hown2 hB2
        have HB2 := Lib.hid ((HB1.out.alloc hs1 _).trans hB2)
        rw [← HT2.out] at hown2
        have HO2 := Lib.hid hown2
        clear hown2 hB2
        go_wp2
        go_roundw
        case rel => exact ⟨j + 1, k + 1, by omega, by omega, by go_num, HO2.out, HB2.out⟩
        case measure => simp [intOf]; omega
      · have h0 : x.1 = 0 := by simpa using HPP.out
        have htk := HTK.out
        rw [if_pos h0] at htk
        have HT2 := Lib.hid htk
        clear h0 htk
        go_wp2
        go_roundw
        case rel => exact ⟨j + 1, k, by omega, by omega, by go_num, by rw [HT2.out]; exact HO1.out, HB1.out⟩
        case measure => simp [intOf]; omega
    · obtain rfl : j = n := by omega
      have ho := HO.out
      rw [List.take_of_length_le (by omega)] at ho
      obtain ⟨A2, c2, rfl, hl2, hR2⟩ := Rw.own ho
      obtain rfl : k = m := by rw [← hl2]; exact HM.out
      have HR2 := Lib.hid hR2
      clear ho hown hR2 HO hl2
      go_wp2
      go_ret
      exact ⟨_, _, rfl, HR2.out, hbel⟩

set_option maxHeartbeats 2000000 in
theorem refTimes_any (A : Option Addr) (c : Nat) (xs : List Ve) (w : World) (n : Nat) (hn : xs.length = n) (h40 : n ≤ 1099511627776) (hR : Rv w A c xs) (m : Nat) (hm : (tms xs).length = m) :
    Calls Try.prog 24 #[.slice A n c] w fun e w' => ∃ A' c', e = .returned (.slice A' m c') ∧ Rw w' A' c' (tms xs) ∧ Below w.heap.size w w' := by
  have HR := Lib.hid hR
  have HM := Lib.hid hm
  clear hR hm
  go_enter Try.func24, Try.ntmps24
  go_wp2_with fail
  go_loopw [4, 3] (fun i v wr => ∃ (j k : Nat), j ≤ n ∧ k ≤ j ∧ i = .int .i64 j ∧ wr.ownsRow w.heap.size 23 1 v k (words (tms (xs.take j))) ∧ Below w.heap.size w wr) (fun i _ _ => n - (intOf i).toNat)
  case atStart => exact ⟨0, 0, Nat.zero_le _, Nat.le_refl _, rfl, World.ownsRow_nil _ _ _ _, Below.refl _ _⟩
  case round =>
    obtain ⟨j, k, hj, hkj, rfl, hown, hbel⟩ := hrel
    have HL := Lib.hid hbel
    have HO := Lib.hid hown
    have hsz := hbel.size
    by_cases hlt : j < n
    · obtain ⟨x, hx⟩ : ∃ x, xs[j]? = some x := ⟨_, List.getElem?_eq_getElem (by omega)⟩
      obtain ⟨g, off, rfl, hg, hcell⟩ := (HR.out.below hbel (Nat.le_refl _)).at (by omega)
      obtain ⟨c0, c1, c2⟩ := hcell j x hx
      have htk := tms_take hx
      clear hcell hx hbel hown c1 c2
      by_cases h0 : x.1 = 0
      · have h0' : ((x.1 : Int) != 0) = false := by simp; omega
        rw [if_pos h0] at htk
        have HT2 := Lib.hid htk
        clear h0 htk
        go_wp2
        go_roundw
        case rel => exact ⟨j + 1, k, by omega, by omega, by go_num, by rw [HT2.out]; exact HO.out, HL.out⟩
        case measure => simp [intOf]; omega
      · have h0' : ((x.1 : Int) != 0) = true := by simp; omega
        rw [if_neg h0] at htk
        have HT2 := Lib.hid htk
        clear h0 htk
        go_wp2_with (at_builtin; go_must (refine wpList_appw rfl (.tmp 17) (.tmp 23) rfl w.heap.size _ k (tms (xs.take j)) rfl (HO.out.alloc _) wr.heap.size 0 x.1 rfl ((Blk.new wr [.int .u64 (x.1 : Int)] 23).cell (i := 0) rfl) (by omega) (by rw [nblk_alloc]; omega) ?_))
        intro v2 w2 hown2 hB2
        have HB2 := Lib.hid ((HL.out.alloc hsz _).trans hB2)
        rw [← HT2.out] at hown2
        have HO2 := Lib.hid hown2
        clear hown2 hB2
        go_wp2
        go_roundw
        case rel => exact ⟨j + 1, k + 1, by omega, by omega, by go_num, HO2.out, HB2.out⟩
        case measure => simp [intOf]; omega
    · obtain rfl : j = n := by omega
      have ho := HO.out
      rw [List.take_of_length_le (by omega)] at ho
      obtain ⟨A2, c2, rfl, hl2, hR2⟩ := Rw.own ho
      obtain rfl : k = m := by rw [← hl2]; exact HM.out
      have HR2 := Lib.hid hR2
      clear ho hown hR2 HO hl2
      go_wp2
      go_ret
      exact ⟨_, _, rfl, HR2.out, hbel⟩
end Go.Proofs.Ytmaadlkojcekgaa
