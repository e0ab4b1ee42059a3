/-
  The statements of layer 4 about words (all functions of words answer as specified; changes show and locking alone does not; locking and unlocking undo each other and changes are counted): each returns true for every word; nothing that was there is written. Condition: words below 2^64, a number of changes below 256.
-/
import Derived.Test.YtehanjekioomoaaLatWords
namespace Go.Proofs.Ytehanjekioomoaa
open Go.RowKit Go.Deep
set_option linter.unusedVariables false

set_option maxHeartbeats 2000000 in
theorem lawWords (v x : Nat) (hv : v < 18446744073709551616) (hx : x < 18446744073709551616) (w : World) :
    Calls Try.prog 3 #[.int .u64 (v : Int), .int .u64 (x : Int)] w fun e w' => e = .returned (.bool true) ∧ w = w' := by
  obtain ⟨b1, hb1⟩ : ∃ b, (x % 2 == 1) = b := ⟨_, rfl⟩
  have i1 : ((x : Int) % 2 == 1) = b1 := by rw [← hb1, Bool.eq_iff_iff]; simp; omega
  obtain ⟨b2, hb2⟩ : ∃ b, (x / 2 % 2 == 1) = b := ⟨_, rfl⟩
  have i2 : ((x : Int) / 2 % 2 == 1) = b2 := by rw [← hb2, Bool.eq_iff_iff]; simp; omega
  obtain ⟨b3, hb3⟩ : ∃ b, (v / 2 == x / 2) = b := ⟨_, rfl⟩
  have i3 : ((v : Int) / 2 == (x : Int) / 2) = b3 := by rw [← hb3, Bool.eq_iff_iff]; simp; omega
  have H1 := Lib.hid hb1
  have H2 := Lib.hid hb2
  have H3 := Lib.hid hb3
  clear hb1 hb2 hb3
  go_enter Try.func3, Try.ntmps3
  go_wp2_with fail
  refine (awake_any _).mono ?_; rintro e w1 ⟨rfl, rfl⟩
  go_wp2_with fail
  refine (locked_of x b1 hx H1.out _).mono ?_; rintro e w2 ⟨rfl, rfl⟩
  go_wp2_with fail
  refine (changing_of x b2 hx H2.out _).mono ?_; rintro e w3 ⟨rfl, rfl⟩
  go_wp2_with fail
  refine (version_of x (x / 4) hx rfl _).mono ?_; rintro e w4 ⟨rfl, rfl⟩
  go_wp2_with fail
  refine (lock_of x (x / 2 * 2 + 1) hx rfl _).mono ?_; rintro e w5 ⟨rfl, rfl⟩
  go_wp2_with fail
  refine (unlock_of x (x / 2 * 2) hx rfl _).mono ?_; rintro e w6 ⟨rfl, rfl⟩
  go_wp2_with fail
  refine (begin_of x (x / 4 * 4 + 2 + x % 2) hx rfl _).mono ?_; rintro e w7 ⟨rfl, rfl⟩
  go_wp2_with fail
  refine (end_of x (4 * ((x / 4 + 1) % 4611686018427387904) + x % 2) hx (by unfold endW; omega) _).mono ?_; rintro e w8 ⟨rfl, rfl⟩
  go_wp2_with fail
  refine (same_of v x b3 hv hx H3.out _).mono ?_; rintro e w9 ⟨rfl, rfl⟩
  go_wp2
  go_ret
  exact ⟨rfl, rfl⟩

set_option maxHeartbeats 2000000 in
theorem lawShow (x0 : Nat) (hx0 : x0 < 18446744073709551616) (w : World) :
    Calls Try.prog 4 #[.int .u64 (x0 : Int)] w fun e w' => e = .returned (.bool true) ∧ w = w' := by
  obtain ⟨x, hx⟩ : ∃ x, x0 / 4 * 4 = x := ⟨_, rfl⟩
  have hi : (x0 : Int) / 4 * 4 = (x : Int) := by omega
  have hlt : x < 18446744073709551616 := by omega
  have hm : x % 4 = 0 := by omega
  have HX := Lib.hid hx
  clear hx hx0
  obtain ⟨d, hd⟩ : ∃ d, (x + 4) % 18446744073709551616 = d := ⟨_, rfl⟩
  have hd2 : d < 18446744073709551616 := by omega
  have hd4 : d % 4 = 0 := by omega
  go_enter Try.func4, Try.ntmps4
  go_wp2_with fail
  refine (lock_of x (x + 1) hlt (by unfold lockW; omega) _).mono ?_; rintro e w1 ⟨rfl, rfl⟩
  go_wp2_with fail
  refine (begin_of (x + 1) (x + 3) (by omega) (by unfold beginW; omega) _).mono ?_; rintro e w2 ⟨rfl, rfl⟩
  go_wp2_with fail
  refine (end_of (x + 3) (d + 1) (by omega) (by unfold endW; omega) _).mono ?_; rintro e w3 ⟨rfl, rfl⟩
  go_wp2_with fail
  refine (unlock_of (d + 1) d (by omega) (by unfold unlockW; omega) _).mono ?_; rintro e w4 ⟨rfl, rfl⟩
  go_wp2_with fail
  refine (awake_any _).mono ?_; rintro e w5 ⟨rfl, rfl⟩
  go_wp2_with fail
  refine (same_of x (x + 1) true (by omega) (by omega) (by simp; omega) _).mono ?_; rintro e w6 ⟨rfl, rfl⟩
  go_wp2_with fail
  refine (same_of (x + 1) (x + 3) false (by omega) (by omega) (by simp; omega) _).mono ?_; rintro e w7 ⟨rfl, rfl⟩
  go_wp2_with fail
  refine (same_of (x + 3) (d + 1) false (by omega) (by omega) (by simp; omega) _).mono ?_; rintro e w8 ⟨rfl, rfl⟩
  go_wp2_with fail
  refine (same_of (x + 1) (d + 1) false (by omega) (by omega) (by simp; omega) _).mono ?_; rintro e w9 ⟨rfl, rfl⟩
  go_wp2_with fail
  refine (same_of (d + 1) d true (by omega) (by omega) (by simp; omega) _).mono ?_; rintro e w10 ⟨rfl, rfl⟩
  go_wp2_with fail
  refine (locked_of (d + 1) true (by omega) (by simp; omega) _).mono ?_; rintro e w11 ⟨rfl, rfl⟩
  go_wp2_with fail
  refine (locked_of d false (by omega) (by simp; omega) _).mono ?_; rintro e w12 ⟨rfl, rfl⟩
  go_wp2_with fail
  refine (changing_of d false (by omega) (by simp; omega) _).mono ?_; rintro e w13 ⟨rfl, rfl⟩
  go_wp2_with fail
  refine (same_of x d false (by omega) (by omega) (by simp; omega) _).mono ?_; rintro e w14 ⟨rfl, rfl⟩
  go_wp2
  go_ret
  exact ⟨rfl, rfl⟩

/-- The word behind so many changes. -/
def changed (x : Nat) : Nat → Nat
  | 0 => x
  | k + 1 => endW (beginW (changed x k))
theorem changed_lt (x : Nat) (h : x < 18446744073709551616) : ∀ k, changed x k < 18446744073709551616
  | 0 => h
  | k + 1 => endW_lt _
theorem changed_version (x : Nat) (h : x < 18446744073709551616) : ∀ k, changed x k / 4 = (x / 4 + k) % 4611686018427387904
  | 0 => by show x / 4 = _; omega
  | k + 1 => by
    have := changed_version x h k
    have h2 := changed_lt x h k
    show endW (beginW (changed x k)) / 4 = _
    unfold endW beginW
    omega
theorem changed_still (x : Nat) (k : Nat) (hk : k ≠ 0) : changed x k / 2 % 2 = 0 := by
  obtain ⟨j, rfl⟩ : ∃ j, k = j + 1 := ⟨k - 1, by omega⟩
  show endW (beginW (changed x j)) / 2 % 2 = 0
  unfold endW
  omega

set_option maxHeartbeats 2000000 in
theorem lawInvert (x c : Nat) (hx : x < 18446744073709551616) (hc : c < 256) (w : World) :
    Calls Try.prog 7 #[.int .u64 (x : Int), .int .u8 (c : Int)] w fun e w' => e = .returned (.bool true) ∧ w = w' := by
  obtain ⟨v, hv⟩ : ∃ v, unlockW x = v := ⟨_, rfl⟩
  have hvl : v < 18446744073709551616 := by rw [← hv]; exact unlockW_lt hx
  have hve : v % 2 = 0 := by rw [← hv]; unfold unlockW; omega
  obtain ⟨b, hb⟩ : ∃ b, (x % 2 == 1) = b := ⟨_, rfl⟩
  obtain ⟨l, hl⟩ : ∃ l, lockW x = l := ⟨_, rfl⟩
  have hll : l < 18446744073709551616 := by rw [← hl]; exact lockW_lt hx
  have HV := Lib.hid hv
  have HB := Lib.hid hb
  have HL := Lib.hid hl
  clear hv hb hl
  go_enter Try.func7, Try.ntmps7
  go_wp2_with fail
  refine (unlock_of x v hx HV.out _).mono ?_; rintro e w1 ⟨rfl, rfl⟩
  go_wp2_with fail
  refine (awake_any _).mono ?_; rintro e w2 ⟨rfl, rfl⟩
  go_wp2_with fail
  refine (lock_of v (v + 1) hvl (by unfold lockW; omega) _).mono ?_; rintro e w3 ⟨rfl, rfl⟩
  go_wp2_with fail
  refine (unlock_of (v + 1) v (by omega) (by unfold unlockW; omega) _).mono ?_; rintro e w4 ⟨rfl, rfl⟩
  go_wp2_with fail
  refine (lock_of x l hx HL.out _).mono ?_; rintro e w5 ⟨rfl, rfl⟩
  go_wp2_with fail
  refine (unlock_of l v hll (by rw [← HL.out, ← HV.out]; unfold lockW unlockW; omega) _).mono ?_; rintro e w6 ⟨rfl, rfl⟩
  go_wp2_with fail
  refine (lock_of v l hvl (by rw [← HL.out, ← HV.out]; unfold lockW unlockW; omega) _).mono ?_; rintro e w7 ⟨rfl, rfl⟩
  go_wp2_with fail
  refine (lock_of x l hx HL.out _).mono ?_; rintro e w8 ⟨rfl, rfl⟩
  go_wp2_with fail
  refine (begin_any x hx _).mono ?_; rintro e w9 ⟨rfl, rfl⟩
  go_wp2_with fail
  refine (locked_of (beginW x) b (beginW_lt hx) (by rw [← HB.out]; unfold beginW; congr 1; omega) _).mono ?_; rintro e w10 ⟨rfl, rfl⟩
  go_wp2_with fail
  refine (locked_of x b hx HB.out _).mono ?_; rintro e w11 ⟨rfl, rfl⟩
  go_wp2_with fail
  refine (end_any x hx _).mono ?_; rintro e w12 ⟨rfl, rfl⟩
  go_wp2_with fail
  refine (locked_of (endW x) b (endW_lt x) (by rw [← HB.out]; unfold endW; congr 1; omega) _).mono ?_; rintro e w13 ⟨rfl, rfl⟩
  go_wp2_with fail
  refine (locked_of x b hx HB.out _).mono ?_; rintro e w14 ⟨rfl, rfl⟩
  go_wp2
  go_loopw [6, 7] (fun y i wr => ∃ k : Nat, k ≤ c ∧ i = .int .i64 k ∧ y = .int .u64 ((changed x k : Nat) : Int) ∧ wr = w) (fun _ i _ => c - (intOf i).toNat)
  case atStart => exact ⟨0, by omega, rfl, rfl, rfl⟩
  case round =>
    obtain ⟨k, hk, rfl, rfl, rfl⟩ := hrel
    obtain ⟨y, hy⟩ : ∃ y, changed x k = y := ⟨_, rfl⟩
    have hyl : y < 18446744073709551616 := by rw [← hy]; exact changed_lt x hx k
    rw [hy]
    by_cases hlt : k < c
    · have HY := Lib.hid hy
      clear hy
      go_wp2_with fail
      refine (begin_any y hyl _).mono ?_; rintro e w2 ⟨rfl, rfl⟩
      go_wp2_with fail
      refine (end_of (beginW y) (changed x (k + 1)) (beginW_lt hyl) (by rw [← HY.out]; rfl) _).mono ?_; rintro e w2 ⟨rfl, rfl⟩
      go_wp2
      go_roundw
      case rel => exact ⟨k + 1, by omega, by go_num, by simp⟩
      case measure => simp [intOf]; omega
    · obtain rfl : k = c := by omega
      have hver := changed_version x hx k
      have hst := changed_still x k
      rw [hy] at hver hst
      have HVER := Lib.hid hver
      have HST := Lib.hid hst
      clear hver hst hy
      rcases Nat.eq_zero_or_pos k with hk0 | hk0
      all_goals
        go_wp2_with fail
        refine (version_of y ((x / 4 + k) % 4611686018427387904) hyl HVER.out _).mono ?_; rintro e w2 ⟨rfl, rfl⟩
        go_wp2_with fail
        refine (version_of x (x / 4) hx rfl _).mono ?_; rintro e w2 ⟨rfl, rfl⟩
      · have h0 : ((k : Int) == 0) = true := by simp; omega
        go_wp2
        go_ret
        exact ⟨rfl, rfl⟩
      · have h0 : ((k : Int) == 0) = false := by simp; omega
        go_wp2_with fail
        refine (changing_of y false hyl (by have := HST.out (by omega); simp; omega) _).mono ?_; rintro e w2 ⟨rfl, rfl⟩
        go_wp2
        go_ret
        exact ⟨rfl, rfl⟩

theorem lawWords_all (v : Nat) (hv : v < 18446744073709551616) (x : Nat) (hx : x < 18446744073709551616) (w : World) :
    Calls Try.prog 3 #[.int .u64 (v : Int), .int .u64 (x : Int)] w fun e w' => e = .returned (.bool true) ∧ Below w.heap.size w w' :=
  (lawWords v x hv hx w).mono fun _ _ ⟨he, hw⟩ => ⟨he, hw ▸ (Kept.refl (fun _ => False) w).below (Nat.le_refl _) (fun _ h => h.elim)⟩
theorem lawShow_all (x : Nat) (hx : x < 18446744073709551616) (w : World) :
    Calls Try.prog 4 #[.int .u64 (x : Int)] w fun e w' => e = .returned (.bool true) ∧ Below w.heap.size w w' :=
  (lawShow x hx w).mono fun _ _ ⟨he, hw⟩ => ⟨he, hw ▸ (Kept.refl (fun _ => False) w).below (Nat.le_refl _) (fun _ h => h.elim)⟩
theorem lawInvert_all (x : Nat) (hx : x < 18446744073709551616) (c : Nat) (hc : c < 256) (w : World) :
    Calls Try.prog 7 #[.int .u64 (x : Int), .int .u8 (c : Int)] w fun e w' => e = .returned (.bool true) ∧ Below w.heap.size w w' :=
  (lawInvert x c hx hc w).mono fun _ _ ⟨he, hw⟩ => ⟨he, hw ▸ (Kept.refl (fun _ => False) w).below (Nat.le_refl _) (fun _ h => h.elim)⟩

end Go.Proofs.Ytehanjekioomoaa
