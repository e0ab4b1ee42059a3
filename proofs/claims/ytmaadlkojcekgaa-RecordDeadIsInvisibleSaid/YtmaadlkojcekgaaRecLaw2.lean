/-
  RecordCutKeepsVisible and RecordDeadIsInvisible of the statements about chains, walked. Condition: arguments within the model's reach.
-/
import Derived.Test.YtmaadlkojcekgaaRecVal
import Derived.Test.YtmaadlkojcekgaaRecTms
namespace Go.Proofs.Ytmaadlkojcekgaa
open Go.RowKit Go.Deep Plain
set_option linter.unusedVariables false

set_option maxRecDepth 100000 in
set_option maxHeartbeats 8000000 in
theorem lawCutKeepsVisible (w : World) (A : Option Addr) (c : Nat) (xs : List Ve) (n : Nat) (hn : xs.length = n) (h47 : n ≤ maxLen) (hR : Rv w A c xs) (floor : Nat) (hfloor : floor < 18446744073709551616) (time : Nat) (htime : time < 18446744073709551616) (p : Bool) :
    Calls Try.prog 4 #[.slice A n c, .int .u64 (floor : Int), .int .u64 (time : Int), .bool p] w fun e w' => e = .returned (.bool true) ∧ Below w.heap.size w w' := by
  have HB := Lib.hid (Below.refl w.heap.size w)
  have hw : w.heap.size ≤ w.heap.size := Nat.le_refl _
  have HRx := Lib.hid hR
  clear hR
  obtain ⟨F, hF0⟩ : ∃ F : Nat, floor % 100 = F := ⟨_, rfl⟩
  have hF1 : (floor : Int) % 100 = (F : Int) := by omega
  have hF2 : (floor : Int).tmod 100 = (F : Int) := by rw [Int.tmod_eq_emod_of_nonneg (by omega)]; omega
  have hF3 : F < 100 := by omega
  clear hF0
  obtain ⟨R, hR0⟩ : ∃ R : Nat, time % 50 = R := ⟨_, rfl⟩
  have hR1 : (time : Int) % 50 = (R : Int) := by omega
  have hR2 : (time : Int).tmod 50 = (R : Int) := by rw [Int.tmod_eq_emod_of_nonneg (by omega)]; omega
  have hR3 : R < 50 := by omega
  clear hR0
  go_enter Try.func4, Try.ntmps4
  go_wp2_with fail
  refine (valid_any A c xs p _ n hn h47 HRx.out).mono ?_; rintro e w2 ⟨A1, m, c1, ys, rfl, hm, hm30, hR1, hchk, hsm, hB9⟩
  have hs9 := hB9.size
  replace HB := Lib.hid (HB.out.trans (hB9.mono hw))
  replace HRx := Lib.hid (HRx.out.below hB9 (Nat.le_refl _))
  replace hw := Nat.le_trans hw hs9
  clear hB9 hs9
  have HM := Lib.hid hm
  have HCHK := Lib.hid hchk
  clear hm hchk hsm
  have HRy := Lib.hid hR1
  clear hR1
  obtain ⟨k1, hk1⟩ : ∃ k, cutAt F ys = k := ⟨_, rfl⟩
  have hk1m : k1 ≤ m := by rw [← hk1]; have := cutAt_le F ys; rw [HM.out] at this; omega
  have HK1 := Lib.hid hk1
  have hold := old_cut F ys
  have HOLD := Lib.hid hold
  obtain ⟨k2, hk2⟩ : ∃ k, cutAt F (cut F ys) = k := ⟨_, rfl⟩
  have hk12 : k2 = k1 := by rw [← hk2, ← cut_length, cut_cut (Nat.le_refl F), cut_length]; exact hk1
  rw [hk12] at hk2
  have HK2 := Lib.hid hk2
  have HKL := Lib.hid ((cut_length F ys).trans hk1)
  have HCC := Lib.hid (cut_cut (Nat.le_refl F) ys)
  clear hk1 hold hk2 hk12
  go_wp2_with fail
  refine (cut_any A1 c1 ys F _ m HM.out (by omega) HRy.out k1 HK1.out).mono ?_; rintro e w3 ⟨A2, c2, rfl, hR2, hB9⟩
  have hs9 := hB9.size
  replace HB := Lib.hid (HB.out.trans (hB9.mono hw))
  replace HRx := Lib.hid (HRx.out.below hB9 (Nat.le_refl _))
  replace HRy := Lib.hid (HRy.out.below hB9 (Nat.le_refl _))
  replace hw := Nat.le_trans hw hs9
  clear hB9 hs9
  have HRu := Lib.hid hR2
  clear hR2
  have HCK := Lib.hid (show ChkI (cut F ys) from HCHK.out.take _)
  obtain ⟨zs, hzs⟩ : ∃ zs, cut F ys = zs := ⟨_, rfl⟩
  rw [hzs] at HRu HCK HKL HOLD HK2 HCC
  have HZS := Lib.hid hzs
  clear hzs
  go_wp2_with fail
  go_loopw [12, 11] (fun i o wr => ∃ (j q : Nat), j ≤ k1 ∧ i = .int .i64 j ∧ o = .int .i64 q ∧ (zs.take j).countP (rch F) = q ∧ q ≤ j ∧ wr = w3) (fun i _ _ => k1 - (intOf i).toNat)
  case atStart => exact ⟨0, 0, Nat.zero_le _, rfl, rfl, rfl, Nat.le_refl _, rfl⟩
  case round =>
    obtain ⟨j, q, hj, rfl, rfl, hq, hqj, rfl⟩ := hrel
    rename World => w3
    by_cases hlt : j < k1
    · obtain ⟨x, hx⟩ : ∃ x, zs[j]? = some x := ⟨_, List.getElem?_eq_getElem (by have := HKL.out; omega)⟩
      obtain ⟨g, off, rfl, hg, hcell⟩ := HRu.out.at (by have := HKL.out; omega)
      obtain ⟨c0, c1', c2'⟩ := hcell j x hx
      have hst := old_take (f := F) hx
      rw [hq] at hst
      clear hcell hx c1' c2' hq
      by_cases h0 : x.1 = 0
      · have h0' : ((x.1 : Int) != 0) = false := by simp; omega
        have hr : rch F x = false := rch_no.2 fun h => absurd h0 h
        rw [hr] at hst
        have HST := Lib.hid (show (zs.take (j + 1)).countP (rch F) = q by rw [hst]; simp)
        clear h0 hst hr
        go_wp2
        go_roundw
        case rel => exact ⟨j + 1, q, by omega, by go_num, by first | rfl | trivial, HST.out, by omega, by first | rfl | trivial⟩
        case measure => simp [intOf]; omega
      · have h0' : ((x.1 : Int) != 0) = true := by simp; omega
        by_cases h1 : x.1 ≤ F
        · have h1' : decide (x.1 ≤ F) = true := by simpa using h1
          have hr : rch F x = true := rch_iff.2 ⟨h0, h1⟩
          rw [hr] at hst
          have HST := Lib.hid (show (zs.take (j + 1)).countP (rch F) = q + 1 by rw [hst]; simp)
          clear h0 hst hr
          go_wp2
          go_roundw
          case rel => exact ⟨j + 1, q + 1, by omega, by go_num, by go_num, HST.out, by omega, by first | rfl | trivial⟩
          case measure => simp [intOf]; omega
        · have h1' : decide (x.1 ≤ F) = false := by simpa using h1
          have hr : rch F x = false := rch_no.2 fun _ => by omega
          rw [hr] at hst
          have HST := Lib.hid (show (zs.take (j + 1)).countP (rch F) = q by rw [hst]; simp)
          clear h0 hst hr
          go_wp2
          go_roundw
          case rel => exact ⟨j + 1, q, by omega, by go_num, by first | rfl | trivial, HST.out, by omega, by first | rfl | trivial⟩
          case measure => simp [intOf]; omega
    · obtain rfl : j = k1 := by omega
      rw [List.take_of_length_le (by have := HKL.out; omega)] at hq
      have hq1 : q ≤ 1 := by rw [← hq]; exact HOLD.out
      have hq1a : decide ((1 : Int) < (q : Int)) = false := by simp; omega
      have hq1b : decide (1 < q) = false := by simp; omega
      have hmj : decide (m < j) = false := by simp; omega
      have hmja : decide ((m : Int) < (j : Int)) = false := by simp; omega
      have hj30 : j ≤ 30 := by omega
      clear hk1m hj hlt
      clear hq hq1
      go_wp2_with fail
      refine (awake_any _).mono ?_; rintro e w5 ⟨rfl, hB9⟩
      have hs9 := hB9.size
      replace HB := Lib.hid (HB.out.trans (hB9.mono hw))
      replace HRx := Lib.hid (HRx.out.below hB9 (Nat.le_refl _))
      replace HRy := Lib.hid (HRy.out.below hB9 (Nat.le_refl _))
      replace HRu := Lib.hid (HRu.out.below hB9 (Nat.le_refl _))
      replace hw := Nat.le_trans hw hs9
      clear hB9 hs9
      go_wp2_with fail
      refine (check_any A2 c2 zs _ j HKL.out (by omega) HRu.out true ⟨fun _ => HCK.out, fun _ => rfl⟩).mono ?_; rintro e w6 ⟨rfl, hB9⟩
      have hs9 := hB9.size
      replace HB := Lib.hid (HB.out.trans (hB9.mono hw))
      replace HRx := Lib.hid (HRx.out.below hB9 (Nat.le_refl _))
      replace HRy := Lib.hid (HRy.out.below hB9 (Nat.le_refl _))
      replace HRu := Lib.hid (HRu.out.below hB9 (Nat.le_refl _))
      replace hw := Nat.le_trans hw hs9
      clear hB9 hs9
      go_wp2_with fail
      refine (cut_any A2 c2 zs F _ j HKL.out (by omega) HRu.out j HK2.out).mono ?_; rintro e w7 ⟨A3, c3, rfl, hR3, hB9⟩
      have hs9 := hB9.size
      replace HB := Lib.hid (HB.out.trans (hB9.mono hw))
      replace HRx := Lib.hid (HRx.out.below hB9 (Nat.le_refl _))
      replace HRy := Lib.hid (HRy.out.below hB9 (Nat.le_refl _))
      replace HRu := Lib.hid (HRu.out.below hB9 (Nat.le_refl _))
      replace hw := Nat.le_trans hw hs9
      clear hB9 hs9
      rw [HCC.out] at hR3
      have HRv := Lib.hid hR3
      clear hR3
      go_wp2_with fail
      refine (same_any A3 A2 c3 c2 zs _ j HKL.out (by omega) HRv.out HRu.out).mono ?_; rintro e w8 ⟨rfl, hB9⟩
      have hs9 := hB9.size
      replace HB := Lib.hid (HB.out.trans (hB9.mono hw))
      replace HRx := Lib.hid (HRx.out.below hB9 (Nat.le_refl _))
      replace HRy := Lib.hid (HRy.out.below hB9 (Nat.le_refl _))
      replace HRu := Lib.hid (HRu.out.below hB9 (Nat.le_refl _))
      replace HRv := Lib.hid (HRv.out.below hB9 (Nat.le_refl _))
      replace hw := Nat.le_trans hw hs9
      clear hB9 hs9
      clear HRv
      go_wp2_with fail
      have Hws := Lib.hid (Blk.new w8 [.int .u64 (F : Int), .int .u64 ((F : Int) + (R : Int)), .int .u64 ((F : Int) + 200), .int .u64 18446744073709551615] 23)
      replace HRx := Lib.hid (HRx.out.below ((Below.refl _ _).alloc (Nat.le_refl _) (.cells #[.int .u64 (F : Int), .int .u64 ((F : Int) + (R : Int)), .int .u64 ((F : Int) + 200), .int .u64 18446744073709551615] 23)) (Nat.le_refl _))
      replace HRy := Lib.hid (HRy.out.below ((Below.refl _ _).alloc (Nat.le_refl _) (.cells #[.int .u64 (F : Int), .int .u64 ((F : Int) + (R : Int)), .int .u64 ((F : Int) + 200), .int .u64 18446744073709551615] 23)) (Nat.le_refl _))
      replace HRu := Lib.hid (HRu.out.below ((Below.refl _ _).alloc (Nat.le_refl _) (.cells #[.int .u64 (F : Int), .int .u64 ((F : Int) + (R : Int)), .int .u64 ((F : Int) + 200), .int .u64 18446744073709551615] 23)) (Nat.le_refl _))
      replace HB := Lib.hid (HB.out.alloc hw (.cells #[.int .u64 (F : Int), .int .u64 ((F : Int) + (R : Int)), .int .u64 ((F : Int) + 200), .int .u64 18446744073709551615] 23))
      have hz9 : (w8.alloc (.cells #[.int .u64 (F : Int), .int .u64 ((F : Int) + (R : Int)), .int .u64 ((F : Int) + 200), .int .u64 18446744073709551615] 23)).heap.size = w8.heap.size + 1 := nblk_alloc _ _
      generalize w8.alloc (.cells #[.int .u64 (F : Int), .int .u64 ((F : Int) + (R : Int)), .int .u64 ((F : Int) + 200), .int .u64 18446744073709551615] 23) = V9 at *
      generalize w8.heap.size = bws at *
      have ltws : bws < V9.heap.size := by omega
      replace hw : w.heap.size ≤ V9.heap.size := by omega
      clear hz9
      clear HRx
      go_loopw [85] (fun i wr => ∃ i0 : Nat, i0 ≤ 4 ∧ i = .int .i64 i0 ∧ Below w.heap.size w wr ∧ w.heap.size ≤ wr.heap.size ∧ Rv wr A1 c1 ys ∧ Rv wr A2 c2 zs ∧ Blk wr bws 23 [.int .u64 (F : Int), .int .u64 ((F : Int) + (R : Int)), .int .u64 ((F : Int) + 200), .int .u64 18446744073709551615] ∧ bws < wr.heap.size) (fun i _ => 4 - (intOf i).toNat)
      case atStart => exact ⟨0, Nat.zero_le _, rfl, HB.out, hw, HRy.out, HRu.out, Hws.out, ltws⟩
      case round =>
        clear HB hw HRy HRu Hws ltws
        obtain ⟨i0, hi0, rfl, hb0, hw, hry, hru, hws, ltws⟩ := hrel
        have HB := Lib.hid hb0
        have HRy := Lib.hid hry
        have HRu := Lib.hid hru
        have Hws := Lib.hid hws
        clear hb0 hws hry hru
        by_cases hlt0 : i0 < 4
        · obtain ⟨T, hT, hcT⟩ : ∃ T : Nat, F ≤ T ∧ wr.cell? ⟨bws, i0, none⟩ = some (.int .u64 (T : Int)) := by
            rcases (by omega : i0 = 0 ∨ i0 = 1 ∨ i0 = 2 ∨ i0 = 3) with h | h | h | h <;> subst h
            · exact ⟨F, by omega, (Hws.out.cell (i := 0) rfl).trans (by first | rfl | simp)⟩
            · exact ⟨F + R, by omega, (Hws.out.cell (i := 1) rfl).trans (by first | rfl | simp)⟩
            · exact ⟨F + 200, by omega, (Hws.out.cell (i := 2) rfl).trans (by first | rfl | simp)⟩
            · exact ⟨18446744073709551615, by omega, (Hws.out.cell (i := 3) rfl).trans (by first | rfl | simp)⟩
          have HT := Lib.hid hT
          clear hT
          obtain ⟨x, d, hv⟩ : ∃ x d, vis T ys = (x, d) := ⟨_, _, rfl⟩
          have hv2 : vis T zs = (x, d) := by rw [← HZS.out, vis_cut HT.out]; exact hv
          have HV := Lib.hid hv
          have HV2 := Lib.hid hv2
          clear hv hv2
          go_wp2_with fail
          refine (visible_any A1 c1 ys T _ m HM.out (by omega) HRy.out x d HV.out).mono ?_; rintro e w11 ⟨rfl, hB9⟩
          have hs9 := hB9.size
          replace HB := Lib.hid (HB.out.trans (hB9.mono hw))
          replace Hws := Lib.hid (Hws.out.below hB9 ltws)
          replace ltws := Nat.lt_of_lt_of_le ltws hs9
          replace HRy := Lib.hid (HRy.out.below hB9 (Nat.le_refl _))
          replace HRu := Lib.hid (HRu.out.below hB9 (Nat.le_refl _))
          replace hw := Nat.le_trans hw hs9
          clear hB9 hs9
          go_wp2_with fail
          have Hb1 := Lib.hid (Blk.new w11 [.int .u64 (x.1 : Int), .string x.2.1, .bool x.2.2] 27)
          replace Hws := Lib.hid (Hws.out.alloc (.cells #[.int .u64 (x.1 : Int), .string x.2.1, .bool x.2.2] 27))
          replace HRy := Lib.hid (HRy.out.below ((Below.refl _ _).alloc (Nat.le_refl _) (.cells #[.int .u64 (x.1 : Int), .string x.2.1, .bool x.2.2] 27)) (Nat.le_refl _))
          replace HRu := Lib.hid (HRu.out.below ((Below.refl _ _).alloc (Nat.le_refl _) (.cells #[.int .u64 (x.1 : Int), .string x.2.1, .bool x.2.2] 27)) (Nat.le_refl _))
          replace HB := Lib.hid (HB.out.alloc hw (.cells #[.int .u64 (x.1 : Int), .string x.2.1, .bool x.2.2] 27))
          have hz9 : (w11.alloc (.cells #[.int .u64 (x.1 : Int), .string x.2.1, .bool x.2.2] 27)).heap.size = w11.heap.size + 1 := nblk_alloc _ _
          generalize w11.alloc (.cells #[.int .u64 (x.1 : Int), .string x.2.1, .bool x.2.2] 27) = V12 at *
          generalize w11.heap.size = bb1 at *
          have ltb1 : bb1 < V12.heap.size := by omega
          replace ltws : bws < V12.heap.size := by omega
          replace hw : w.heap.size ≤ V12.heap.size := by omega
          clear hz9
          go_wp2_with fail
          refine (visible_any A2 c2 zs T _ j HKL.out (by omega) HRu.out x d HV2.out).mono ?_; rintro e w13 ⟨rfl, hB9⟩
          have hs9 := hB9.size
          replace HB := Lib.hid (HB.out.trans (hB9.mono hw))
          replace Hws := Lib.hid (Hws.out.below hB9 ltws)
          replace ltws := Nat.lt_of_lt_of_le ltws hs9
          replace Hb1 := Lib.hid (Hb1.out.below hB9 ltb1)
          replace ltb1 := Nat.lt_of_lt_of_le ltb1 hs9
          replace HRy := Lib.hid (HRy.out.below hB9 (Nat.le_refl _))
          replace HRu := Lib.hid (HRu.out.below hB9 (Nat.le_refl _))
          replace hw := Nat.le_trans hw hs9
          clear hB9 hs9
          have b1c0 := Hb1.out.cell (i := 0) rfl
          have b1c1 := Hb1.out.cell (i := 1) rfl
          have b1c2 := Hb1.out.cell (i := 2) rfl
          go_wp2_with fail
          clear b1c0 b1c1 b1c2
          have Hb2 := Lib.hid (Blk.new w13 [.int .u64 (x.1 : Int), .string x.2.1, .bool x.2.2] 27)
          replace Hws := Lib.hid (Hws.out.alloc (.cells #[.int .u64 (x.1 : Int), .string x.2.1, .bool x.2.2] 27))
          replace Hb1 := Lib.hid (Hb1.out.alloc (.cells #[.int .u64 (x.1 : Int), .string x.2.1, .bool x.2.2] 27))
          replace HRy := Lib.hid (HRy.out.below ((Below.refl _ _).alloc (Nat.le_refl _) (.cells #[.int .u64 (x.1 : Int), .string x.2.1, .bool x.2.2] 27)) (Nat.le_refl _))
          replace HRu := Lib.hid (HRu.out.below ((Below.refl _ _).alloc (Nat.le_refl _) (.cells #[.int .u64 (x.1 : Int), .string x.2.1, .bool x.2.2] 27)) (Nat.le_refl _))
          replace HB := Lib.hid (HB.out.alloc hw (.cells #[.int .u64 (x.1 : Int), .string x.2.1, .bool x.2.2] 27))
          have hz9 : (w13.alloc (.cells #[.int .u64 (x.1 : Int), .string x.2.1, .bool x.2.2] 27)).heap.size = w13.heap.size + 1 := nblk_alloc _ _
          generalize w13.alloc (.cells #[.int .u64 (x.1 : Int), .string x.2.1, .bool x.2.2] 27) = V14 at *
          generalize w13.heap.size = bb2 at *
          have ltb2 : bb2 < V14.heap.size := by omega
          replace ltws : bws < V14.heap.size := by omega
          replace ltb1 : bb1 < V14.heap.size := by omega
          replace hw : w.heap.size ≤ V14.heap.size := by omega
          clear hz9
          go_wp2
          go_roundw
          case rel => exact ⟨i0 + 1, by omega, by go_num, HB.out, hw, HRy.out, HRu.out, Hws.out, ltws⟩
          case measure => simp [intOf]; omega
        · obtain rfl : i0 = 4 := by omega
          go_wp2_with fail
          go_ret
          exact ⟨by first | rfl | simp, HB.out⟩

set_option maxRecDepth 100000 in
set_option maxHeartbeats 8000000 in
theorem lawDeadIsInvisible (w : World) (A : Option Addr) (c : Nat) (xs : List Ve) (n : Nat) (hn : xs.length = n) (h47 : n ≤ maxLen) (hR : Rv w A c xs) (floor : Nat) (hfloor : floor < 18446744073709551616) (time : Nat) (htime : time < 18446744073709551616) (p : Bool) :
    Calls Try.prog 5 #[.slice A n c, .int .u64 (floor : Int), .int .u64 (time : Int), .bool p] w fun e w' => e = .returned (.bool true) ∧ Below w.heap.size w w' := by
  have HB := Lib.hid (Below.refl w.heap.size w)
  have hw : w.heap.size ≤ w.heap.size := Nat.le_refl _
  have HRx := Lib.hid hR
  clear hR
  obtain ⟨F, hF0⟩ : ∃ F : Nat, floor % 60 = F := ⟨_, rfl⟩
  have hF1 : (floor : Int) % 60 = (F : Int) := by omega
  have hF2 : (floor : Int).tmod 60 = (F : Int) := by rw [Int.tmod_eq_emod_of_nonneg (by omega)]; omega
  have hF3 : F < 60 := by omega
  clear hF0
  obtain ⟨R, hR0⟩ : ∃ R : Nat, time % 50 = R := ⟨_, rfl⟩
  have hR1 : (time : Int) % 50 = (R : Int) := by omega
  have hR2 : (time : Int).tmod 50 = (R : Int) := by rw [Int.tmod_eq_emod_of_nonneg (by omega)]; omega
  have hR3 : R < 50 := by omega
  clear hR0
  go_enter Try.func5, Try.ntmps5
  go_wp2_with fail
  refine (valid_any A c xs p _ n hn h47 HRx.out).mono ?_; rintro e w2 ⟨A1, m, c1, ys, rfl, hm, hm30, hR1, hchk, hsm, hB9⟩
  have hs9 := hB9.size
  replace HB := Lib.hid (HB.out.trans (hB9.mono hw))
  replace HRx := Lib.hid (HRx.out.below hB9 (Nat.le_refl _))
  replace hw := Nat.le_trans hw hs9
  clear hB9 hs9
  have HM := Lib.hid hm
  have HCHK := Lib.hid hchk
  clear hm hchk hsm
  have HRy := Lib.hid hR1
  clear hR1
  obtain ⟨db, hdb⟩ : ∃ d, dead F ys = d := ⟨_, rfl⟩
  have HD := Lib.hid hdb
  clear hdb
  go_wp2_with fail
  refine (dead_any A1 c1 ys F _ m HM.out (by omega) HRy.out db HD.out).mono ?_; rintro e w3 ⟨rfl, hB9⟩
  have hs9 := hB9.size
  replace HB := Lib.hid (HB.out.trans (hB9.mono hw))
  replace HRx := Lib.hid (HRx.out.below hB9 (Nat.le_refl _))
  replace HRy := Lib.hid (HRy.out.below hB9 (Nat.le_refl _))
  replace hw := Nat.le_trans hw hs9
  clear hB9 hs9
  cases db
  · cases ys with
    | nil => exact absurd HD.out (by simp [dead])
    | cons x r =>
      have hm0 : 0 < m := by rw [← HM.out]; simp
      have hm0' : ((m : Int) == 0) = false := by simp; omega
      obtain ⟨g, off, hA, hg, hcell⟩ := HRy.out.at (by simp)
      subst hA
      obtain ⟨c0, c1', c2'⟩ := hcell 0 x rfl
      simp only [Nat.zero_mul, Nat.add_zero] at c0 c1' c2'
      clear hcell c1' c2'
      by_cases h0 : x.1 = 0
      · have h0' : ((x.1 : Int) == 0) = true := by simp; omega
        clear h0
        go_wp2_with fail
        refine (awake_any _).mono ?_; rintro e w4 ⟨rfl, hB9⟩
        have hs9 := hB9.size
        replace HB := Lib.hid (HB.out.trans (hB9.mono hw))
        replace HRx := Lib.hid (HRx.out.below hB9 (Nat.le_refl _))
        replace HRy := Lib.hid (HRy.out.below hB9 (Nat.le_refl _))
        replace hw := Nat.le_trans hw hs9
        clear hB9 hs9
        go_wp2_with fail
        go_ret
        exact ⟨by first | rfl | simp, HB.out⟩
      · have h0' : ((x.1 : Int) == 0) = false := by simp; omega
        by_cases h1 : x.1 ≤ F
        · have h1' : decide (F < x.1) = false := by simp; omega
          have hlv := live_val (rch_iff.2 ⟨h0, h1⟩) HD.out
          obtain ⟨sv, hsv⟩ : ∃ sv, val F (x :: r) = (sv, true) := ⟨(val F (x :: r)).1, by rw [← hlv]⟩
          have HSV := Lib.hid hsv
          clear hsv hlv h0
          go_wp2_with fail
          refine (value_any _ c1 (x :: r) F _ m HM.out (by omega) HRy.out sv true HSV.out).mono ?_; rintro e w4 ⟨rfl, hB9⟩
          have hs9 := hB9.size
          replace HB := Lib.hid (HB.out.trans (hB9.mono hw))
          replace HRx := Lib.hid (HRx.out.below hB9 (Nat.le_refl _))
          replace HRy := Lib.hid (HRy.out.below hB9 (Nat.le_refl _))
          replace hw := Nat.le_trans hw hs9
          clear hB9 hs9
          go_wp2_with fail
          refine (awake_any _).mono ?_; rintro e w5 ⟨rfl, hB9⟩
          have hs9 := hB9.size
          replace HB := Lib.hid (HB.out.trans (hB9.mono hw))
          replace HRx := Lib.hid (HRx.out.below hB9 (Nat.le_refl _))
          replace HRy := Lib.hid (HRy.out.below hB9 (Nat.le_refl _))
          replace hw := Nat.le_trans hw hs9
          clear hB9 hs9
          go_wp2_with fail
          go_ret
          exact ⟨by first | rfl | simp, HB.out⟩
        · have h1' : decide (F < x.1) = true := by simp; omega
          clear h0
          go_wp2_with fail
          refine (awake_any _).mono ?_; rintro e w4 ⟨rfl, hB9⟩
          have hs9 := hB9.size
          replace HB := Lib.hid (HB.out.trans (hB9.mono hw))
          replace HRx := Lib.hid (HRx.out.below hB9 (Nat.le_refl _))
          replace HRy := Lib.hid (HRy.out.below hB9 (Nat.le_refl _))
          replace hw := Nat.le_trans hw hs9
          clear hB9 hs9
          go_wp2_with fail
          go_ret
          exact ⟨by first | rfl | simp, HB.out⟩
  · go_wp2_with fail
    have Hws := Lib.hid (Blk.new w3 [.int .u64 (F : Int), .int .u64 ((F : Int) + (R : Int)), .int .u64 18446744073709551615] 23)
    replace HRx := Lib.hid (HRx.out.below ((Below.refl _ _).alloc (Nat.le_refl _) (.cells #[.int .u64 (F : Int), .int .u64 ((F : Int) + (R : Int)), .int .u64 18446744073709551615] 23)) (Nat.le_refl _))
    replace HRy := Lib.hid (HRy.out.below ((Below.refl _ _).alloc (Nat.le_refl _) (.cells #[.int .u64 (F : Int), .int .u64 ((F : Int) + (R : Int)), .int .u64 18446744073709551615] 23)) (Nat.le_refl _))
    replace HB := Lib.hid (HB.out.alloc hw (.cells #[.int .u64 (F : Int), .int .u64 ((F : Int) + (R : Int)), .int .u64 18446744073709551615] 23))
    have hz9 : (w3.alloc (.cells #[.int .u64 (F : Int), .int .u64 ((F : Int) + (R : Int)), .int .u64 18446744073709551615] 23)).heap.size = w3.heap.size + 1 := nblk_alloc _ _
    generalize w3.alloc (.cells #[.int .u64 (F : Int), .int .u64 ((F : Int) + (R : Int)), .int .u64 18446744073709551615] 23) = V4 at *
    generalize w3.heap.size = bws at *
    have ltws : bws < V4.heap.size := by omega
    replace hw : w.heap.size ≤ V4.heap.size := by omega
    clear hz9
    clear HRx
    go_loopw [31] (fun i wr => ∃ i0 : Nat, i0 ≤ 3 ∧ i = .int .i64 i0 ∧ Below w.heap.size w wr ∧ w.heap.size ≤ wr.heap.size ∧ Rv wr A1 c1 ys ∧ Blk wr bws 23 [.int .u64 (F : Int), .int .u64 ((F : Int) + (R : Int)), .int .u64 18446744073709551615] ∧ bws < wr.heap.size) (fun i _ => 3 - (intOf i).toNat)
    case atStart => exact ⟨0, Nat.zero_le _, rfl, HB.out, hw, HRy.out, Hws.out, ltws⟩
    case round =>
      clear HB hw HRy Hws ltws
      obtain ⟨i0, hi0, rfl, hb0, hw, hry, hws, ltws⟩ := hrel
      have HB := Lib.hid hb0
      have HRy := Lib.hid hry
      have Hws := Lib.hid hws
      clear hb0 hws hry
      by_cases hlt0 : i0 < 3
      · obtain ⟨T, hT, hcT⟩ : ∃ T : Nat, F ≤ T ∧ wr.cell? ⟨bws, i0, none⟩ = some (.int .u64 (T : Int)) := by
          rcases (by omega : i0 = 0 ∨ i0 = 1 ∨ i0 = 2) with h | h | h <;> subst h
          · exact ⟨F, by omega, (Hws.out.cell (i := 0) rfl).trans (by first | rfl | simp)⟩
          · exact ⟨F + R, by omega, (Hws.out.cell (i := 1) rfl).trans (by first | rfl | simp)⟩
          · exact ⟨18446744073709551615, by omega, (Hws.out.cell (i := 2) rfl).trans (by first | rfl | simp)⟩
        have HT := Lib.hid hT
        clear hT
        obtain ⟨sv, d, hv⟩ : ∃ sv d, val T ys = (sv, d) := ⟨_, _, rfl⟩
        obtain rfl : d = false := by have h9 := dead_val HT.out ys HD.out; rw [hv] at h9; exact h9
        have HV := Lib.hid hv
        clear hv
        go_wp2_with fail
        refine (value_any A1 c1 ys T _ m HM.out (by omega) HRy.out sv false HV.out).mono ?_; rintro e w6 ⟨rfl, hB9⟩
        have hs9 := hB9.size
        replace HB := Lib.hid (HB.out.trans (hB9.mono hw))
        replace Hws := Lib.hid (Hws.out.below hB9 ltws)
        replace ltws := Nat.lt_of_lt_of_le ltws hs9
        replace HRy := Lib.hid (HRy.out.below hB9 (Nat.le_refl _))
        replace hw := Nat.le_trans hw hs9
        clear hB9 hs9
        go_wp2
        go_roundw
        case rel => exact ⟨i0 + 1, by omega, by go_num, HB.out, hw, HRy.out, Hws.out, ltws⟩
        case measure => simp [intOf]; omega
      · obtain rfl : i0 = 3 := by omega
        go_wp2_with fail
        refine (awake_any _).mono ?_; rintro e w41 ⟨rfl, hB9⟩
        have hs9 := hB9.size
        replace HB := Lib.hid (HB.out.trans (hB9.mono hw))
        replace Hws := Lib.hid (Hws.out.below hB9 ltws)
        replace ltws := Nat.lt_of_lt_of_le ltws hs9
        replace HRy := Lib.hid (HRy.out.below hB9 (Nat.le_refl _))
        replace hw := Nat.le_trans hw hs9
        clear hB9 hs9
        go_wp2_with fail
        go_ret
        exact ⟨by first | rfl | simp, HB.out⟩
end Go.Proofs.Ytmaadlkojcekgaa
