/-
  The statement of layer 4 'Acquire waits while the latch is locked, and locks it after it has been released': it returns true for every word and number of steps; nothing that was there is written. Condition: a word below 2^64, a byte below 256.
-/
import Derived.Test.YtehanjekioomoaaLatMach
namespace Go.Proofs.Ytehanjekioomoaa
open Go.RowKit Go.Deep
set_option linter.unusedVariables false

theorem new_1 (w : World) :
    Calls Try.prog 18 #[.int .i64 1] w fun e w' => e = .returned (.tuple #[.pointer (some ⟨w.heap.size + 1, 0, none⟩), .int .i64 0]) ∧ Mem w' (w.heap.size + 1) w.heap.size [cel0] 0 ∧ Kept (fun _ => False) w w' :=
  new_ok 1 (by omega) (by omega) w
theorem lock_unlock (x : Nat) : lockW (unlockW x) = lockW x := by unfold lockW unlockW; omega
theorem unlock_lock (x : Nat) : unlockW (lockW x) = unlockW x := by unfold lockW unlockW; omega
theorem lock_odd (x : Nat) : (lockW x % 2 == 0) = false := by unfold lockW; simp
theorem unlock_even (x : Nat) : (unlockW x % 2 == 0) = true := by unfold unlockW; simp
theorem swaps_lone (c : Int) (m : Int) (s : ByteArray) : swaps [(c, s, m)] 0 c = true := by simp [swaps, isIn, cellAt]

/-- While the latch is locked: k steps are done. -/
structure Wai (w wr : World) (b g q x k : Nat) (N0 : Nat) (K0 : ByteArray) (M0 : Int) : Prop where
  mem : Mem wr b g [(((lockW x : Nat) : Int), ⟨#[]⟩, 0)] k
  acq : AcqB wr q 0 N0 K0 M0 false false
  kept : Kept (fun _ => False) w wr
/-- When it has been released: no step, or one. -/
structure Fre (w wr : World) (b g q x : Nat) (k j : Nat) (N0 : Nat) (K0 : ByteArray) (M0 : Int) : Prop where
  mem : Mem wr b g [(((unlockW x : Nat) : Int), ⟨#[]⟩, 0)] (k + j)
  acq : AcqB wr q 0 N0 K0 M0 (j == 1) false
  look : j = 1 → N0 = unlockW x ∧ K0 = ⟨#[]⟩ ∧ M0 = 0
  kept : Kept (fun _ => False) w wr

set_option maxHeartbeats 4000000 in
theorem lawWaits (x : Nat) (hx : x < 18446744073709551616) (s : Nat) (hs : s < 256) (w : World) :
    Calls Try.prog 6 #[.int .u64 (x : Int), .int .u8 (s : Int)] w fun e w' => e = .returned (.bool true) ∧ Below w.heap.size w w' := by
  obtain ⟨n, hn, hn50⟩ : ∃ n : Nat, s % 50 = n ∧ n < 50 := ⟨_, rfl, Nat.mod_lt _ (by omega)⟩
  have hs1 : (s : Int) % 50 = (n : Int) := by omega
  have hs2 : (s : Int).tmod 50 = (n : Int) := by rw [Int.tmod_eq_emod_of_nonneg (by omega)]; omega
  have hll := lockW_lt hx
  have hul := unlockW_lt hx
  go_enter Try.func6, Try.ntmps6
  go_wp2_with fail
  refine (new_1 _).mono ?_; rintro e w1 ⟨rfl, hM1, hK1⟩
  have HM1 := Lib.hid hM1
  have HK1 := Lib.hid hK1
  clear hM1 hK1
  go_wp2_with fail
  refine (awake_any _).mono ?_; rintro e w2 ⟨rfl, rfl⟩
  go_wp2_with fail
  refine (lock_any x hx _).mono ?_; rintro e w3 ⟨rfl, rfl⟩
  go_wp2_with fail
  refine (poke_any _ _ _ _ _ _ _ _ _ HM1.out).mono ?_; rintro e w4 ⟨rfl, hM4, hK4⟩
  have HM4 : Hid (Mem w4 (w.heap.size + 1) w.heap.size [(((lockW x : Nat) : Int), ⟨#[]⟩, 0)] 0) := Lib.hid hM4
  have HK4 : Hid (Kept (fun _ => False) w w4) := Lib.hid (HK1.out.trans hK4 (fun i hi h => by unfold Own at h; omega))
  clear hM4 hK4 HM1 HK1
  go_wp2_with fail
  refine (newAcquire_any 0 _).mono ?_; rintro e w5 ⟨rfl, rfl⟩
  have hMl := HM4.out.obj.lt
  have hM5 := HM4.out.alloc (.cells ⟨acqv 0 0 ⟨#[]⟩ 0 false false⟩ 53)
  have hQ5 := Blk.new w4 (acqv 0 0 ⟨#[]⟩ 0 false false) 53
  have hK5 := HK4.out.alloc (.cells ⟨acqv 0 0 ⟨#[]⟩ 0 false false⟩ 53)
  obtain ⟨q, hq⟩ : ∃ q, w4.heap.size = q := ⟨_, rfl⟩
  rw [hq] at hQ5 ⊢
  have hqb : q ≠ w.heap.size + 1 := by omega
  have hqg : q ≠ w.heap.size := by omega
  have hqn : ∀ i, i < w.heap.size → ¬ Own3 q (w.heap.size + 1) w.heap.size i := fun i hi => by unfold Own3; omega
  clear hq hMl HM4 HK4
  generalize w4.alloc (.cells ⟨acqv 0 0 ⟨#[]⟩ 0 false false⟩ 53) = W5 at *
  go_wp2
  go_loopw [8] (fun i wr => ∃ (k N0 : Nat) (K0 : ByteArray) (M0 : Int), k ≤ n ∧ i = .int .i64 k ∧ Wai w wr (w.heap.size + 1) w.heap.size q x k N0 K0 M0) (fun i _ => n - (intOf i).toNat)
  case atStart => exact ⟨0, 0, ⟨#[]⟩, 0, by omega, rfl, hM5, hQ5, hK5⟩
  case round =>
    obtain ⟨k, N0, K0, M0, hk, rfl, hW⟩ := hrel
    have HW := Lib.hid hW
    clear hW
    by_cases hlt : k < n
    · go_wp2_with fail
      refine (acqStep_load q _ _ _ k 0 (lockW x) N0 ⟨#[]⟩ K0 0 M0 _ HW.out.acq HW.out.mem hqb hqg (by omega) rfl hll).mono ?_; rintro e w6 ⟨rfl, hM6, hQ6, hK6⟩
      rw [lock_odd] at hQ6
      have HM6 := Lib.hid hM6
      have HQ6 := Lib.hid hQ6
      have HK6 : Hid (Kept (fun _ => False) w w6) := Lib.hid (HW.out.kept.trans hK6 (fun i hi h => hqn i hi h))
      clear hM6 hQ6 hK6
      go_wp2_with fail
      refine (peek_any _ _ _ _ _ ((lockW x : Nat) : Int) 0 ⟨#[]⟩ _ HM6.out rfl).mono ?_; rintro e w7 ⟨rfl, hK7⟩
      have HM7 := Lib.hid (HM6.out.kept hK7 id id)
      have HQ7 := Lib.hid (hK7.blk HQ6.out id)
      have HK7 := Lib.hid (HK6.out.trans hK7 (fun _ _ h => h))
      have hfd := field0 ((lockW x : Nat) : Int) 0 ⟨#[]⟩
      clear hK7 HM6 HQ6 HK6
      go_wp2_with fail
      refine (lock_any x hx _).mono ?_; rintro e w8 ⟨rfl, rfl⟩
      go_wp2
      go_roundw
      case rel => exact ⟨k + 1, _, _, _, by omega, by go_num, HM7.out, HQ7.out, HK7.out⟩
      case measure => simp [intOf]; omega
    · obtain rfl : k = n := by omega
      go_wp2_with fail
      refine (lock_any x hx _).mono ?_; rintro e w6 ⟨rfl, rfl⟩
      go_wp2_with fail
      refine (newRelease_any 0 (lockW x) _).mono ?_; rintro e w7 ⟨rfl, rfl⟩
      have hlr := HW.out.mem.obj.lt
      have hql := HW.out.acq.lt
      have hM7 := HW.out.mem.alloc (.cells ⟨relv 0 (lockW x) false⟩ 57)
      have hA7 := HW.out.acq.alloc (.cells ⟨relv 0 (lockW x) false⟩ 57)
      have hR7 := Blk.new wr (relv 0 (lockW x) false) 57
      have hK7 := HW.out.kept.alloc (.cells ⟨relv 0 (lockW x) false⟩ 57)
      obtain ⟨r, hr⟩ : ∃ r, wr.heap.size = r := ⟨_, rfl⟩
      rw [hr] at hR7 ⊢
      have hrq : q ≠ r := by omega
      have hrb : r ≠ w.heap.size + 1 := by omega
      have hrg : r ≠ w.heap.size := by omega
      have hrn : ∀ i, i < w.heap.size → ¬ Own3 r (w.heap.size + 1) w.heap.size i := fun i hi => by unfold Own3; omega
      clear hr hlr hql HW
      generalize wr.alloc (.cells ⟨relv 0 (lockW x) false⟩ 57) = W7 at *
      have HM7 := Lib.hid hM7
      have HA7 := Lib.hid hA7
      have HR7 := Lib.hid hR7
      have HK7 := Lib.hid hK7
      clear hM7 hA7 hR7 hK7
      go_wp2_with fail
      refine (relStep_any r _ _ _ k 0 (lockW x) _ HR7.out HM7.out hrb hrg (by omega) hll).mono ?_; rintro e w8 ⟨rfl, hM8, hR8, hK8⟩
      rw [unlock_lock] at hM8
      have HM8 : Hid (Mem w8 (w.heap.size + 1) w.heap.size [(((unlockW x : Nat) : Int), ⟨#[]⟩, 0)] (k + 1)) := Lib.hid hM8
      have HA8 := Lib.hid (hK8.blk HA7.out (by unfold Own3; omega))
      have HK8 : Hid (Kept (fun _ => False) w w8) := Lib.hid (HK7.out.trans hK8 (fun i hi h => hrn i hi h))
      clear hM8 hR8 hK8 HM7 HA7 HR7 HK7
      go_wp2_with fail
      refine (peek_any _ _ _ _ _ ((unlockW x : Nat) : Int) 0 ⟨#[]⟩ _ HM8.out rfl).mono ?_; rintro e w9 ⟨rfl, hK9⟩
      have HM9 := Lib.hid (HM8.out.kept hK9 id id)
      have HA9 := Lib.hid (hK9.blk HA8.out id)
      have HK9 := Lib.hid (HK8.out.trans hK9 (fun _ _ h => h))
      have hfd := field0 ((unlockW x : Nat) : Int) 0 ⟨#[]⟩
      clear hK9 HM8 HA8 HK8
      go_wp2_with fail
      refine (unlock_any x hx _).mono ?_; rintro e w10 ⟨rfl, rfl⟩
      go_wp2
      go_loopw [9] (fun i wf => ∃ (j N1 : Nat) (K1 : ByteArray) (M1 : Int), j ≤ 1 ∧ i = .int .i64 j ∧ Fre w wf (w.heap.size + 1) w.heap.size q x (k + 1) j N1 K1 M1) (fun i _ => 2 - (intOf i).toNat)
      case atStart => exact ⟨0, N0, K0, M0, by omega, rfl, HM9.out, HA9.out, fun h => absurd h (by omega), HK9.out⟩
      case round =>
        obtain ⟨j, N1, K1, M1, hj, rfl, hF⟩ := hrel
        have HF := Lib.hid hF
        clear hF
        rcases (by omega : j = 0 ∨ j = 1) with rfl | rfl
        · go_wp2_with fail
          refine (acqStep_load q _ _ _ _ 0 (unlockW x) N1 ⟨#[]⟩ K1 0 M1 _ HF.out.acq HF.out.mem hqb hqg (by omega) rfl hul).mono ?_; rintro e w11 ⟨rfl, hM11, hQ11, hK11⟩
          rw [unlock_even] at hQ11
          have HM11 := Lib.hid hM11
          have HQ11 := Lib.hid hQ11
          have HK11 : Hid (Kept (fun _ => False) w w11) := Lib.hid (HF.out.kept.trans hK11 (fun i hi h => hqn i hi h))
          clear hM11 hQ11 hK11
          go_wp2_with fail
          refine (peek_any _ _ _ _ _ ((unlockW x : Nat) : Int) 0 ⟨#[]⟩ _ HM11.out rfl).mono ?_; rintro e w12 ⟨rfl, hK12⟩
          have HM12 := Lib.hid (HM11.out.kept hK12 id id)
          have HQ12 := Lib.hid (hK12.blk HQ11.out id)
          have HK12 := Lib.hid (HK11.out.trans hK12 (fun _ _ h => h))
          clear hK12 HM11 HQ11 HK11
          go_wp2_with fail
          refine (locked_of (unlockW x) false hul (by unfold unlockW; simp) _).mono ?_; rintro e w13 ⟨rfl, rfl⟩
          go_wp2
          go_roundw
          case rel => exact ⟨1, _, _, _, by omega, by go_num, HM12.out, HQ12.out, fun _ => ⟨rfl, rfl, rfl⟩, HK12.out⟩
          case measure => simp [intOf]
        · obtain ⟨rfl, rfl, rfl⟩ := HF.out.look rfl
          go_wp2_with fail
          refine (acqStep_swap q _ _ _ [(((lockW x : Nat) : Int), ⟨#[]⟩, 0)] _ 0 (unlockW x) ⟨#[]⟩ 0 true _ HF.out.acq HF.out.mem hqb hqg (by omega) hul (swaps_lone _ _ _) (by rw [lock_unlock]; rfl)).mono ?_; rintro e w11 ⟨rfl, hM11, hQ11, hK11⟩
          have HM11 := Lib.hid hM11
          have HQ11 := Lib.hid hQ11
          have HK11 : Hid (Kept (fun _ => False) w w11) := Lib.hid (HF.out.kept.trans hK11 (fun i hi h => hqn i hi h))
          clear hM11 hQ11 hK11
          go_wp2_with fail
          refine (accesses_any _ _ _ _ _ HM11.out).mono ?_; rintro e w12 ⟨rfl, rfl⟩
          go_wp2_with fail
          refine (acqStep_done q _ 0 _ _ _ _ _ HQ11.out).mono ?_; rintro e w13 ⟨rfl, rfl⟩
          go_wp2_with fail
          refine (accesses_any _ _ _ _ _ HM11.out).mono ?_; rintro e w14 ⟨rfl, rfl⟩
          go_wp2_with fail
          refine (word_yes q 0 _ _ _ _ _ HQ11.out hul).mono ?_; rw [lock_unlock]; rintro e w15 ⟨rfl, rfl⟩
          go_wp2_with fail
          refine (lock_any x hx _).mono ?_; rintro e w16 ⟨rfl, rfl⟩
          go_wp2_with fail
          refine (peek_any _ _ _ _ _ ((lockW x : Nat) : Int) 0 ⟨#[]⟩ _ HM11.out rfl).mono ?_; rintro e w17 ⟨rfl, hK17⟩
          have HK17 : Hid (Below w.heap.size w w17) := Lib.hid ((HK11.out.trans hK17 (fun _ _ h => h)).below (Nat.le_refl _) (fun _ h => h.elim))
          have hfd := field0 ((lockW x : Nat) : Int) 0 ⟨#[]⟩
          clear hK17
          go_wp2_with fail
          refine (lock_any x hx _).mono ?_; rintro e w18 ⟨rfl, rfl⟩
          go_wp2
          go_ret
          exact ⟨rfl, HK17.out⟩

end Go.Proofs.Ytehanjekioomoaa
