/-
  The walk of the statement of layer 6 'Now loads the published timestamp in its only step'. Condition: a word below 2^64, a byte below 256.
-/
import Derived.Test.YtmnfdecakjobjaaCloAwake
namespace Go.Proofs.Ytmnfdecakjobjaa
open Go.RowKit Go.Deep
set_option linter.unusedVariables false

set_option maxHeartbeats 2000000 in
theorem lawNow (x : Nat) (hx : x < 18446744073709551616) (st : Nat) (hs : st < 256) (w : World) :
    Calls Try.prog 4 #[.int .u64 (x : Int), .int .u8 (st : Int)] w fun e w' => e = .returned (.bool true) ∧ Below w.heap.size w w' := by
  obtain ⟨n, hn, hn50⟩ : ∃ n : Nat, st % 5 = n ∧ n < 5 := ⟨_, rfl, Nat.mod_lt _ (by omega)⟩
  have hs1 : (st : Int) % 5 = (n : Int) := by omega
  have hs2 : (st : Int).tmod 5 = (n : Int) := by rw [Int.tmod_eq_emod_of_nonneg (by omega)]; omega
  go_enter Try.func4, Try.ntmps4
  go_wp2_with fail
  refine (kitConfig_any 1 _).mono ?_; rintro e w1 ⟨rfl, hK1⟩
  go_wp2_with fail
  refine (kitMem 1 1000 (by omega) (by omega) (by omega) (by omega) _).mono ?_
  intro e w2 hok
  obtain ⟨b, g, l, fa, fb, fd, rfl, hM2, hC2, hl2, hb2, hg2, hK2⟩ := hok
  have hz := hK1.size
  have HM2 := Lib.hid hM2
  have HC2 := Lib.hid hC2
  have HLL := Lib.hid hl2
  have HB2 := Lib.hid (show w.heap.size ≤ b ∧ w.heap.size ≤ g by omega)
  have HK2 := Lib.hid (hK1.trans hK2 (fun _ _ h => h))
  clear hM2 hC2 hl2 hb2 hg2 hz hK1 hK2
  go_wp2_with fail
  have HL := Lib.hid (Blk.new w2 [.int .i64 1, .int .i64 2, .int .i64 100, .int .i64 100, .int .i64 200, .int .i64 4, .int .u64 ((1000 : Nat) : Int), .int .i64 fa, .int .i64 fb, .int .i64 fd] 29)
  have HM3 := Lib.hid (HM2.out.alloc (.cells #[.int .i64 1, .int .i64 2, .int .i64 100, .int .i64 100, .int .i64 200, .int .i64 4, .int .u64 ((1000 : Nat) : Int), .int .i64 fa, .int .i64 fb, .int .i64 fd] 29))
  have HK3 := Lib.hid (HK2.out.alloc (.cells #[.int .i64 1, .int .i64 2, .int .i64 100, .int .i64 100, .int .i64 200, .int .i64 4, .int .u64 ((1000 : Nat) : Int), .int .i64 fa, .int .i64 fb, .int .i64 fd] 29))
  have HBS : Hid (b < w2.heap.size ∧ g < w2.heap.size) := Lib.hid ⟨HM2.out.obj.lt, HM2.out.row.lt⟩
  clear HM2 HK2
  generalize w2.alloc (.cells #[.int .i64 1, .int .i64 2, .int .i64 100, .int .i64 100, .int .i64 200, .int .i64 4, .int .u64 ((1000 : Nat) : Int), .int .i64 fa, .int .i64 fb, .int .i64 fd] 29) = W3 at *
  generalize w2.heap.size = s at *
  refine (awake_any _).mono ?_; rintro e w4 ⟨rfl, hK4⟩
  have HL4 := Lib.hid (hK4.blk HL.out id)
  have HM4 := Lib.hid (HM3.out.kept hK4 id id)
  have HK4 := Lib.hid (HK3.out.trans hK4 (fun _ _ h => h))
  clear hK4 HL HM3 HK3
  go_wp2_with fail
  refine (poke_any b g _ 0 2 (x : Int) 0 ⟨#[]⟩ _ HM4.out).mono ?_; rintro e w5 ⟨rfl, hM5, hK5⟩
  have hlen : (putAt l 2 ((x : Int), ⟨#[]⟩, 0)).length ≤ 1048576 := by rw [putAt_length]; exact HLL.out
  have hC5 := HC2.out.put2 x
  generalize putAt l 2 ((x : Int), ⟨#[]⟩, 0) = l5 at *
  have HM5 := Lib.hid hM5
  have HC5 := Lib.hid hC5
  have HLN := Lib.hid hlen
  have HL5 := Lib.hid (hK5.blk HL4.out (by have := HBS.out; unfold Own; omega))
  have HK5 := Lib.hid (HK4.out.trans hK5 (T := Own b g) (fun i hi h => by have := HB2.out; unfold Own at h; omega))
  clear hM5 hK5 HM4 HL4 HK4 hC5 hlen HC2 HLL
  go_wp2_with fail
  refine (kitCells_any b g l5 0 _ HM5.out (by have := HLN.out; omega)).mono ?_; rintro e w6 ⟨rfl, hB6, hK6⟩
  have HW6 := Lib.hid hB6
  have HM6 := Lib.hid (HM5.out.kept hK6 id id)
  have HLS := Lib.hid (show b ≠ w5.heap.size ∧ g ≠ w5.heap.size by have := HM5.out.obj.lt; have := HM5.out.row.lt; omega)
  have hL := hK6.blk HL5.out id
  have HK6 := Lib.hid (HK5.out.trans hK6 (fun _ _ h => h))
  clear hB6 hK6 HM5 HL5 HK5
  generalize hcc : w5.heap.size = cc at *
  clear hcc
  have x0 := hL.cell (i := 0) rfl
  have x1 := hL.cell (i := 1) rfl
  have x2 := hL.cell (i := 2) rfl
  have x3 := hL.cell (i := 3) rfl
  have x4 := hL.cell (i := 4) rfl
  have x5 := hL.cell (i := 5) rfl
  have x6 := hL.cell (i := 6) rfl
  have x7 := hL.cell (i := 7) rfl
  have x8 := hL.cell (i := 8) rfl
  have x9 := hL.cell (i := 9) rfl
  clear hL
  go_wp2_with fail
  refine (newNow_any 1 2 100 100 200 4 fa fb fd 1000 _).mono ?_
  rintro e w7 ⟨q, rfl, hQ7, hq7, hz7, hK7⟩
  clear x0 x1 x2 x3 x4 x5 x6 x7 x8 x9
  have hn1 : q ≠ b := by have := HM6.out.obj.lt; omega
  have hn2 : q ≠ g := by have := HM6.out.row.lt; omega
  have hn4 : cc ≠ q := by have := HW6.out.lt; omega
  have hn3 : Hid (∀ i, i < w.heap.size → ¬ Own3 q b g i) := Lib.hid (fun i hi => by have := HB2.out; have := HK6.out.size; unfold Own3; omega)
  have hn5 : Hid (¬ Own3 q b g cc) := Lib.hid (by have := HLS.out; unfold Own3; omega)
  have HM7 := Lib.hid (HM6.out.kept hK7 id id)
  have HQ7 := Lib.hid hQ7
  have HW7 := Lib.hid (hK7.blk HW6.out id)
  have HK7 := Lib.hid (HK6.out.trans hK7 (fun _ _ h => h))
  clear hQ7 hq7 hz7 hK7 HM6 HW6 HK6
  go_wp2_with fail
  refine (nowTime_any q 2 0 false _ HQ7.out).mono ?_; rintro e w8 ⟨rfl, rfl⟩
  go_wp2_with fail
  refine (nowStep_load q b g l5 0 2 x ⟨#[]⟩ 0 0 _ HQ7.out HM7.out hn1 hn2 (by omega) HC5.out.v).mono ?_; rintro e w9 ⟨rfl, hM9, hQ9, hK9⟩
  have HM9 := Lib.hid hM9
  have HQ9 := Lib.hid hQ9
  have HW9 := Lib.hid (hK9.blk HW7.out hn5.out)
  have HK9 := Lib.hid (HK7.out.trans hK9 (T := Own3 q b g) (fun i hi h => (hn3.out i hi h).elim))
  clear hM9 hQ9 hK9 HM7 HQ7 HW7 HK7
  go_wp2_with fail
  refine (accesses_any b g l5 (0 + 1) _ HM9.out).mono ?_; rintro e w10 ⟨rfl, rfl⟩
  go_wp2_with fail
  rename World => W9
  go_loopw [9] (fun i wr => ∃ j : Nat, j ≤ n ∧ i = .int .i64 j ∧ wr = W9) (fun i _ => n - (intOf i).toNat)
  case atStart => exact ⟨0, by omega, rfl, rfl⟩
  case round =>
    obtain ⟨j, hj, rfl, rfl⟩ := hrel
    by_cases hlt : j < n
    · go_wp2_with fail
      refine (nowStep_done q b 2 x _ HQ9.out).mono ?_; rintro e w10 ⟨rfl, rfl⟩
      go_wp2
      go_roundw
      case rel => exact ⟨j + 1, by omega, by go_num, trivial⟩
      case measure => simp [intOf]; omega
    · obtain rfl : j = n := by omega
      go_wp2_with fail
      refine (accesses_any b g l5 (0 + 1) _ HM9.out).mono ?_; rintro e w11 ⟨rfl, rfl⟩
      go_wp2_with fail
      refine (nowTime_any q 2 x true _ HQ9.out).mono ?_; rintro e w12 ⟨rfl, rfl⟩
      go_wp2_with fail
      refine (kitCells_any b g l5 (0 + 1) _ HM9.out (by have := HLN.out; omega)).mono ?_; rintro e w13 ⟨rfl, hB13, hK13⟩
      have HK13 := Lib.hid (HK9.out.trans hK13 (fun _ _ h => h))
      have hW13 := hK13.blk HW9.out id
      have HS := Lib.hid (same_yes _ cc l5.length l5.length l5 w13 (fun i u h => hB13.cell h) (fun i u h => hW13.cell h) (by have := HLN.out; omega))
      clear hB13 hK13 hW13
      go_wp2_with fail
      refine HS.out.mono ?_; rintro e w14 ⟨rfl, m, rfl⟩
      go_wp2
      go_ret
      exact ⟨rfl, (HK13.out.drewN m).below (Nat.le_refl _) (fun _ h => h.elim)⟩

end Go.Proofs.Ytmnfdecakjobjaa
