/-
  RecordCutsCompose, RecordVisibleGrows and RecordNewest of the statements about chains, walked. Condition: arguments within the model's reach.
-/
import Derived.Test.YtmaadlkojcekgaaRecVal
import Derived.Test.YtmaadlkojcekgaaRecTms
namespace Go.Proofs.Ytmaadlkojcekgaa
open Go.RowKit Go.Deep Plain
set_option linter.unusedVariables false

theorem blk_drawn3 {w : World} {b : Nat} {t : TypeId} {a0 a1 a2 u0 u1 u2 : Value} (h : Blk w b t [a0, a1, a2]) (q : Nat) : Blk ((((w.drewN q).setCell ⟨b, 0, none⟩ u0).setCell ⟨b, 1, none⟩ u1).setCell ⟨b, 2, none⟩ u2) b t [u0, u1, u2] :=
  (((show Blk (w.drewN q) b t [a0, a1, a2] from h).set 0 u0).set 1 u1).set 2 u2
theorem below_drawn3 {B : Nat} {a w : World} {u0 u1 u2 : Value} (h : Below B a w) (q : Nat) : Below B a ((((w.drewN q).setCell ⟨B, 0, none⟩ u0).setCell ⟨B, 1, none⟩ u1).setCell ⟨B, 2, none⟩ u2) :=
  (((below_drewN h q).setCell (Nat.le_refl _) _).setCell (Nat.le_refl _) _).setCell (Nat.le_refl _) _

set_option maxRecDepth 100000 in
set_option maxHeartbeats 8000000 in
theorem lawCutsCompose (w : World) (A : Option Addr) (c : Nat) (xs : List Ve) (n : Nat) (hn : xs.length = n) (h47 : n ≤ maxLen) (hR : Rv w A c xs) (a : Nat) (ha : a < 18446744073709551616) (b : Nat) (hb : b < 18446744073709551616) (p : Bool) :
    Calls Try.prog 8 #[.slice A n c, .int .u64 (a : Int), .int .u64 (b : Int), .bool p] w fun e w' => e = .returned (.bool true) ∧ Below w.heap.size w w' := by
  have HB := Lib.hid (Below.refl w.heap.size w)
  have hw : w.heap.size ≤ w.heap.size := Nat.le_refl _
  have HRx := Lib.hid hR
  clear hR
  obtain ⟨F, hF0⟩ : ∃ F : Nat, a % 100 = F := ⟨_, rfl⟩
  have hF1 : (a : Int) % 100 = (F : Int) := by omega
  have hF2 : (a : Int).tmod 100 = (F : Int) := by rw [Int.tmod_eq_emod_of_nonneg (by omega)]; omega
  have hF3 : F < 100 := by omega
  clear hF0
  obtain ⟨G, hG0⟩ : ∃ G : Nat, b % 100 = G := ⟨_, rfl⟩
  have hG1 : (b : Int) % 100 = (G : Int) := by omega
  have hG2 : (b : Int).tmod 100 = (G : Int) := by rw [Int.tmod_eq_emod_of_nonneg (by omega)]; omega
  have hG3 : G < 100 := by omega
  clear hG0
  go_enter Try.func8, Try.ntmps8
  go_wp2_with fail
  refine (valid_any A c xs p _ n hn h47 HRx.out).mono ?_; rintro e w2 ⟨A1, m, c1, ys, rfl, hm, hm30, hR1, hchk, hsm, hB9⟩
  have hs9 := hB9.size
  replace HB := Lib.hid (HB.out.trans (hB9.mono hw))
  replace HRx := Lib.hid (HRx.out.below hB9 (Nat.le_refl _))
  replace hw := Nat.le_trans hw hs9
  clear hB9 hs9
  have HM := Lib.hid hm
  have HCHK := Lib.hid hchk
  clear hm hchk hsm
  have HRy := Lib.hid hR1
  clear hR1
  by_cases hlt : G < F
  · have hle : G ≤ F := by omega
    obtain ⟨k1, hk1⟩ : ∃ k, cutAt G ys = k := ⟨_, rfl⟩
    obtain ⟨k2, hk2⟩ : ∃ k, cutAt F (cut G ys) = k := ⟨_, rfl⟩
    have hk3 : cutAt F ys = k2 := by rw [← cut_length, ← cut_cut hle, cut_length]; exact hk2
    have hk1m : k1 ≤ 30 := by rw [← hk1]; have := cutAt_le G ys; rw [HM.out] at this; omega
    have hk2m : k2 ≤ 30 := by rw [← hk3]; have := cutAt_le F ys; rw [HM.out] at this; omega
    have HK1 := Lib.hid hk1
    have HK2 := Lib.hid hk2
    have HK3 := Lib.hid hk3
    obtain ⟨d1, hd1⟩ : ∃ d, dead G ys = d := ⟨_, rfl⟩
    obtain ⟨d2, hd2⟩ : ∃ d, dead F ys = d := ⟨_, rfl⟩
    have HD1 := Lib.hid hd1
    have HD2 := Lib.hid hd2
    have HLE := Lib.hid hle
    clear hk1 hk2 hk3 hd1 hd2 hle
    go_wp2_with fail
    refine (awake_any _).mono ?_; rintro e w3 ⟨rfl, hB9⟩
    have hs9 := hB9.size
    replace HB := Lib.hid (HB.out.trans (hB9.mono hw))
    replace HRx := Lib.hid (HRx.out.below hB9 (Nat.le_refl _))
    replace HRy := Lib.hid (HRy.out.below hB9 (Nat.le_refl _))
    replace hw := Nat.le_trans hw hs9
    clear hB9 hs9
    go_wp2_with fail
    refine (cut_any A1 c1 ys G _ m HM.out (by omega) HRy.out k1 HK1.out).mono ?_; rintro e w4 ⟨A2, c2, rfl, hR2, hB9⟩
    have hs9 := hB9.size
    replace HB := Lib.hid (HB.out.trans (hB9.mono hw))
    replace HRx := Lib.hid (HRx.out.below hB9 (Nat.le_refl _))
    replace HRy := Lib.hid (HRy.out.below hB9 (Nat.le_refl _))
    replace hw := Nat.le_trans hw hs9
    clear hB9 hs9
    have HRu := Lib.hid hR2
    clear hR2
    go_wp2_with fail
    refine (cut_any A2 c2 (cut G ys) F _ k1 ((cut_length _ _).trans HK1.out) (by omega) HRu.out k2 HK2.out).mono ?_; rintro e w5 ⟨A3, c3, rfl, hR3, hB9⟩
    have hs9 := hB9.size
    replace HB := Lib.hid (HB.out.trans (hB9.mono hw))
    replace HRx := Lib.hid (HRx.out.below hB9 (Nat.le_refl _))
    replace HRy := Lib.hid (HRy.out.below hB9 (Nat.le_refl _))
    replace HRu := Lib.hid (HRu.out.below hB9 (Nat.le_refl _))
    replace hw := Nat.le_trans hw hs9
    clear hB9 hs9
    rw [cut_cut HLE.out] at hR3
    have HRv := Lib.hid hR3
    clear hR3
    go_wp2_with fail
    refine (cut_any A1 c1 ys F _ m HM.out (by omega) HRy.out k2 HK3.out).mono ?_; rintro e w6 ⟨A4, c4, rfl, hR4, hB9⟩
    have hs9 := hB9.size
    replace HB := Lib.hid (HB.out.trans (hB9.mono hw))
    replace HRx := Lib.hid (HRx.out.below hB9 (Nat.le_refl _))
    replace HRy := Lib.hid (HRy.out.below hB9 (Nat.le_refl _))
    replace HRu := Lib.hid (HRu.out.below hB9 (Nat.le_refl _))
    replace HRv := Lib.hid (HRv.out.below hB9 (Nat.le_refl _))
    replace hw := Nat.le_trans hw hs9
    clear hB9 hs9
    have HRt := Lib.hid hR4
    clear hR4
    go_wp2_with fail
    refine (same_any A3 A4 c3 c4 (cut F ys) _ k2 ((cut_length _ _).trans HK3.out) (by omega) HRv.out HRt.out).mono ?_; rintro e w7 ⟨rfl, hB9⟩
    have hs9 := hB9.size
    replace HB := Lib.hid (HB.out.trans (hB9.mono hw))
    replace HRx := Lib.hid (HRx.out.below hB9 (Nat.le_refl _))
    replace HRy := Lib.hid (HRy.out.below hB9 (Nat.le_refl _))
    replace HRu := Lib.hid (HRu.out.below hB9 (Nat.le_refl _))
    replace HRv := Lib.hid (HRv.out.below hB9 (Nat.le_refl _))
    replace HRt := Lib.hid (HRt.out.below hB9 (Nat.le_refl _))
    replace hw := Nat.le_trans hw hs9
    clear hB9 hs9
    go_wp2_with fail
    refine (dead_any A1 c1 ys G _ m HM.out (by omega) HRy.out d1 HD1.out).mono ?_; rintro e w8 ⟨rfl, hB9⟩
    have hs9 := hB9.size
    replace HB := Lib.hid (HB.out.trans (hB9.mono hw))
    replace HRx := Lib.hid (HRx.out.below hB9 (Nat.le_refl _))
    replace HRy := Lib.hid (HRy.out.below hB9 (Nat.le_refl _))
    replace HRu := Lib.hid (HRu.out.below hB9 (Nat.le_refl _))
    replace HRv := Lib.hid (HRv.out.below hB9 (Nat.le_refl _))
    replace HRt := Lib.hid (HRt.out.below hB9 (Nat.le_refl _))
    replace hw := Nat.le_trans hw hs9
    clear hB9 hs9
    cases d1
    · go_wp2_with fail
      go_ret
      exact ⟨by first | rfl | simp, HB.out⟩
    · obtain rfl : d2 = true := by rw [← HD2.out]; exact dead_mono HLE.out _ HD1.out
      go_wp2_with fail
      refine (dead_any A1 c1 ys F _ m HM.out (by omega) HRy.out true HD2.out).mono ?_; rintro e w9 ⟨rfl, hB9⟩
      have hs9 := hB9.size
      replace HB := Lib.hid (HB.out.trans (hB9.mono hw))
      replace HRx := Lib.hid (HRx.out.below hB9 (Nat.le_refl _))
      replace HRy := Lib.hid (HRy.out.below hB9 (Nat.le_refl _))
      replace HRu := Lib.hid (HRu.out.below hB9 (Nat.le_refl _))
      replace HRv := Lib.hid (HRv.out.below hB9 (Nat.le_refl _))
      replace HRt := Lib.hid (HRt.out.below hB9 (Nat.le_refl _))
      replace hw := Nat.le_trans hw hs9
      clear hB9 hs9
      go_wp2_with fail
      go_ret
      exact ⟨by first | rfl | simp, HB.out⟩
  · have hle : F ≤ G := by omega
    obtain ⟨k1, hk1⟩ : ∃ k, cutAt F ys = k := ⟨_, rfl⟩
    obtain ⟨k2, hk2⟩ : ∃ k, cutAt G (cut F ys) = k := ⟨_, rfl⟩
    have hk3 : cutAt G ys = k2 := by rw [← cut_length, ← cut_cut hle, cut_length]; exact hk2
    have hk1m : k1 ≤ 30 := by rw [← hk1]; have := cutAt_le F ys; rw [HM.out] at this; omega
    have hk2m : k2 ≤ 30 := by rw [← hk3]; have := cutAt_le G ys; rw [HM.out] at this; omega
    have HK1 := Lib.hid hk1
    have HK2 := Lib.hid hk2
    have HK3 := Lib.hid hk3
    obtain ⟨d1, hd1⟩ : ∃ d, dead F ys = d := ⟨_, rfl⟩
    obtain ⟨d2, hd2⟩ : ∃ d, dead G ys = d := ⟨_, rfl⟩
    have HD1 := Lib.hid hd1
    have HD2 := Lib.hid hd2
    have HLE := Lib.hid hle
    clear hk1 hk2 hk3 hd1 hd2 hle
    go_wp2_with fail
    refine (awake_any _).mono ?_; rintro e w3 ⟨rfl, hB9⟩
    have hs9 := hB9.size
    replace HB := Lib.hid (HB.out.trans (hB9.mono hw))
    replace HRx := Lib.hid (HRx.out.below hB9 (Nat.le_refl _))
    replace HRy := Lib.hid (HRy.out.below hB9 (Nat.le_refl _))
    replace hw := Nat.le_trans hw hs9
    clear hB9 hs9
    go_wp2_with fail
    refine (cut_any A1 c1 ys F _ m HM.out (by omega) HRy.out k1 HK1.out).mono ?_; rintro e w4 ⟨A2, c2, rfl, hR2, hB9⟩
    have hs9 := hB9.size
    replace HB := Lib.hid (HB.out.trans (hB9.mono hw))
    replace HRx := Lib.hid (HRx.out.below hB9 (Nat.le_refl _))
    replace HRy := Lib.hid (HRy.out.below hB9 (Nat.le_refl _))
    replace hw := Nat.le_trans hw hs9
    clear hB9 hs9
    have HRu := Lib.hid hR2
    clear hR2
    go_wp2_with fail
    refine (cut_any A2 c2 (cut F ys) G _ k1 ((cut_length _ _).trans HK1.out) (by omega) HRu.out k2 HK2.out).mono ?_; rintro e w5 ⟨A3, c3, rfl, hR3, hB9⟩
    have hs9 := hB9.size
    replace HB := Lib.hid (HB.out.trans (hB9.mono hw))
    replace HRx := Lib.hid (HRx.out.below hB9 (Nat.le_refl _))
    replace HRy := Lib.hid (HRy.out.below hB9 (Nat.le_refl _))
    replace HRu := Lib.hid (HRu.out.below hB9 (Nat.le_refl _))
    replace hw := Nat.le_trans hw hs9
    clear hB9 hs9
    rw [cut_cut HLE.out] at hR3
    have HRv := Lib.hid hR3
    clear hR3
    go_wp2_with fail
    refine (cut_any A1 c1 ys G _ m HM.out (by omega) HRy.out k2 HK3.out).mono ?_; rintro e w6 ⟨A4, c4, rfl, hR4, hB9⟩
    have hs9 := hB9.size
    replace HB := Lib.hid (HB.out.trans (hB9.mono hw))
    replace HRx := Lib.hid (HRx.out.below hB9 (Nat.le_refl _))
    replace HRy := Lib.hid (HRy.out.below hB9 (Nat.le_refl _))
    replace HRu := Lib.hid (HRu.out.below hB9 (Nat.le_refl _))
    replace HRv := Lib.hid (HRv.out.below hB9 (Nat.le_refl _))
    replace hw := Nat.le_trans hw hs9
    clear hB9 hs9
    have HRt := Lib.hid hR4
    clear hR4
    go_wp2_with fail
    refine (same_any A3 A4 c3 c4 (cut G ys) _ k2 ((cut_length _ _).trans HK3.out) (by omega) HRv.out HRt.out).mono ?_; rintro e w7 ⟨rfl, hB9⟩
    have hs9 := hB9.size
    replace HB := Lib.hid (HB.out.trans (hB9.mono hw))
    replace HRx := Lib.hid (HRx.out.below hB9 (Nat.le_refl _))
    replace HRy := Lib.hid (HRy.out.below hB9 (Nat.le_refl _))
    replace HRu := Lib.hid (HRu.out.below hB9 (Nat.le_refl _))
    replace HRv := Lib.hid (HRv.out.below hB9 (Nat.le_refl _))
    replace HRt := Lib.hid (HRt.out.below hB9 (Nat.le_refl _))
    replace hw := Nat.le_trans hw hs9
    clear hB9 hs9
    go_wp2_with fail
    refine (dead_any A1 c1 ys F _ m HM.out (by omega) HRy.out d1 HD1.out).mono ?_; rintro e w8 ⟨rfl, hB9⟩
    have hs9 := hB9.size
    replace HB := Lib.hid (HB.out.trans (hB9.mono hw))
    replace HRx := Lib.hid (HRx.out.below hB9 (Nat.le_refl _))
    replace HRy := Lib.hid (HRy.out.below hB9 (Nat.le_refl _))
    replace HRu := Lib.hid (HRu.out.below hB9 (Nat.le_refl _))
    replace HRv := Lib.hid (HRv.out.below hB9 (Nat.le_refl _))
    replace HRt := Lib.hid (HRt.out.below hB9 (Nat.le_refl _))
    replace hw := Nat.le_trans hw hs9
    clear hB9 hs9
    cases d1
    · go_wp2_with fail
      go_ret
      exact ⟨by first | rfl | simp, HB.out⟩
    · obtain rfl : d2 = true := by rw [← HD2.out]; exact dead_mono HLE.out _ HD1.out
      go_wp2_with fail
      refine (dead_any A1 c1 ys G _ m HM.out (by omega) HRy.out true HD2.out).mono ?_; rintro e w9 ⟨rfl, hB9⟩
      have hs9 := hB9.size
      replace HB := Lib.hid (HB.out.trans (hB9.mono hw))
      replace HRx := Lib.hid (HRx.out.below hB9 (Nat.le_refl _))
      replace HRy := Lib.hid (HRy.out.below hB9 (Nat.le_refl _))
      replace HRu := Lib.hid (HRu.out.below hB9 (Nat.le_refl _))
      replace HRv := Lib.hid (HRv.out.below hB9 (Nat.le_refl _))
      replace HRt := Lib.hid (HRt.out.below hB9 (Nat.le_refl _))
      replace hw := Nat.le_trans hw hs9
      clear hB9 hs9
      go_wp2_with fail
      go_ret
      exact ⟨by first | rfl | simp, HB.out⟩

set_option maxRecDepth 100000 in
set_option maxHeartbeats 8000000 in
theorem lawVisibleGrows (w : World) (A : Option Addr) (c : Nat) (xs : List Ve) (n : Nat) (hn : xs.length = n) (h47 : n ≤ maxLen) (hR : Rv w A c xs) (a : Nat) (ha : a < 18446744073709551616) (b : Nat) (hb : b < 18446744073709551616) (p : Bool) :
    Calls Try.prog 7 #[.slice A n c, .int .u64 (a : Int), .int .u64 (b : Int), .bool p] w fun e w' => e = .returned (.bool true) ∧ Below w.heap.size w w' := by
  have HB := Lib.hid (Below.refl w.heap.size w)
  have hw : w.heap.size ≤ w.heap.size := Nat.le_refl _
  have HRx := Lib.hid hR
  clear hR
  obtain ⟨F, hF0⟩ : ∃ F : Nat, a % 100 = F := ⟨_, rfl⟩
  have hF1 : (a : Int) % 100 = (F : Int) := by omega
  have hF2 : (a : Int).tmod 100 = (F : Int) := by rw [Int.tmod_eq_emod_of_nonneg (by omega)]; omega
  have hF3 : F < 100 := by omega
  clear hF0
  obtain ⟨G, hG0⟩ : ∃ G : Nat, b % 100 = G := ⟨_, rfl⟩
  have hG1 : (b : Int) % 100 = (G : Int) := by omega
  have hG2 : (b : Int).tmod 100 = (G : Int) := by rw [Int.tmod_eq_emod_of_nonneg (by omega)]; omega
  have hG3 : G < 100 := by omega
  clear hG0
  go_enter Try.func7, Try.ntmps7
  go_wp2_with fail
  refine (valid_any A c xs p _ n hn h47 HRx.out).mono ?_; rintro e w2 ⟨A1, m, c1, ys, rfl, hm, hm30, hR1, hchk, hsm, hB9⟩
  have hs9 := hB9.size
  replace HB := Lib.hid (HB.out.trans (hB9.mono hw))
  replace HRx := Lib.hid (HRx.out.below hB9 (Nat.le_refl _))
  replace hw := Nat.le_trans hw hs9
  clear hB9 hs9
  have HM := Lib.hid hm
  have HCHK := Lib.hid hchk
  clear hm hchk hsm
  have HRy := Lib.hid hR1
  clear hR1
  by_cases hlt : G < F
  · have hle : G ≤ F := by omega
    obtain ⟨x, d1, hv1⟩ : ∃ x d, vis G ys = (x, d) := ⟨_, _, rfl⟩
    obtain ⟨y, d2, hv2⟩ : ∃ y d, vis F ys = (y, d) := ⟨_, _, rfl⟩
    have hgr := vis_grows HCHK.out hle
    rw [hv1, hv2] at hgr
    have hg1 : d1 = true → d2 = true ∧ x.1 ≤ y.1 := hgr.1
    have hg2 : d2 = true → y.1 ≤ F := hgr.2
    have HV1 := Lib.hid hv1
    have HV2 := Lib.hid hv2
    have HG1 := Lib.hid hg1
    have HG2 := Lib.hid hg2
    clear hv1 hv2 hgr hg1 hg2 hle
    go_wp2_with fail
    refine (visible_any A1 c1 ys G _ m HM.out (by omega) HRy.out x d1 HV1.out).mono ?_; rintro e w3 ⟨rfl, hB9⟩
    have hs9 := hB9.size
    replace HB := Lib.hid (HB.out.trans (hB9.mono hw))
    replace HRx := Lib.hid (HRx.out.below hB9 (Nat.le_refl _))
    replace HRy := Lib.hid (HRy.out.below hB9 (Nat.le_refl _))
    replace hw := Nat.le_trans hw hs9
    clear hB9 hs9
    go_wp2_with fail
    have Hb1 := Lib.hid (Blk.new w3 [.int .u64 (x.1 : Int), .string x.2.1, .bool x.2.2] 27)
    replace HRx := Lib.hid (HRx.out.below ((Below.refl _ _).alloc (Nat.le_refl _) (.cells #[.int .u64 (x.1 : Int), .string x.2.1, .bool x.2.2] 27)) (Nat.le_refl _))
    replace HRy := Lib.hid (HRy.out.below ((Below.refl _ _).alloc (Nat.le_refl _) (.cells #[.int .u64 (x.1 : Int), .string x.2.1, .bool x.2.2] 27)) (Nat.le_refl _))
    replace HB := Lib.hid (HB.out.alloc hw (.cells #[.int .u64 (x.1 : Int), .string x.2.1, .bool x.2.2] 27))
    have hz9 : (w3.alloc (.cells #[.int .u64 (x.1 : Int), .string x.2.1, .bool x.2.2] 27)).heap.size = w3.heap.size + 1 := nblk_alloc _ _
    generalize w3.alloc (.cells #[.int .u64 (x.1 : Int), .string x.2.1, .bool x.2.2] 27) = V4 at *
    generalize w3.heap.size = bb1 at *
    have ltb1 : bb1 < V4.heap.size := by omega
    replace hw : w.heap.size ≤ V4.heap.size := by omega
    clear hz9
    go_wp2_with fail
    refine (visible_any A1 c1 ys F _ m HM.out (by omega) HRy.out y d2 HV2.out).mono ?_; rintro e w5 ⟨rfl, hB9⟩
    have hs9 := hB9.size
    replace HB := Lib.hid (HB.out.trans (hB9.mono hw))
    replace Hb1 := Lib.hid (Hb1.out.below hB9 ltb1)
    replace ltb1 := Nat.lt_of_lt_of_le ltb1 hs9
    replace HRx := Lib.hid (HRx.out.below hB9 (Nat.le_refl _))
    replace HRy := Lib.hid (HRy.out.below hB9 (Nat.le_refl _))
    replace hw := Nat.le_trans hw hs9
    clear hB9 hs9
    go_wp2_with fail
    have Hb2 := Lib.hid (Blk.new w5 [.int .u64 (y.1 : Int), .string y.2.1, .bool y.2.2] 27)
    replace Hb1 := Lib.hid (Hb1.out.alloc (.cells #[.int .u64 (y.1 : Int), .string y.2.1, .bool y.2.2] 27))
    replace HRx := Lib.hid (HRx.out.below ((Below.refl _ _).alloc (Nat.le_refl _) (.cells #[.int .u64 (y.1 : Int), .string y.2.1, .bool y.2.2] 27)) (Nat.le_refl _))
    replace HRy := Lib.hid (HRy.out.below ((Below.refl _ _).alloc (Nat.le_refl _) (.cells #[.int .u64 (y.1 : Int), .string y.2.1, .bool y.2.2] 27)) (Nat.le_refl _))
    replace HB := Lib.hid (HB.out.alloc hw (.cells #[.int .u64 (y.1 : Int), .string y.2.1, .bool y.2.2] 27))
    have hz9 : (w5.alloc (.cells #[.int .u64 (y.1 : Int), .string y.2.1, .bool y.2.2] 27)).heap.size = w5.heap.size + 1 := nblk_alloc _ _
    generalize w5.alloc (.cells #[.int .u64 (y.1 : Int), .string y.2.1, .bool y.2.2] 27) = V6 at *
    generalize w5.heap.size = bb2 at *
    have ltb2 : bb2 < V6.heap.size := by omega
    replace ltb1 : bb1 < V6.heap.size := by omega
    replace hw : w.heap.size ≤ V6.heap.size := by omega
    clear hz9
    go_wp2_with fail
    refine (awake_any _).mono ?_; rintro e w7 ⟨rfl, hB9⟩
    have hs9 := hB9.size
    replace HB := Lib.hid (HB.out.trans (hB9.mono hw))
    replace Hb1 := Lib.hid (Hb1.out.below hB9 ltb1)
    replace ltb1 := Nat.lt_of_lt_of_le ltb1 hs9
    replace Hb2 := Lib.hid (Hb2.out.below hB9 ltb2)
    replace ltb2 := Nat.lt_of_lt_of_le ltb2 hs9
    replace HRx := Lib.hid (HRx.out.below hB9 (Nat.le_refl _))
    replace HRy := Lib.hid (HRy.out.below hB9 (Nat.le_refl _))
    replace hw := Nat.le_trans hw hs9
    clear hB9 hs9
    have b1c0 := Hb1.out.cell (i := 0) rfl
    have b1c1 := Hb1.out.cell (i := 1) rfl
    have b1c2 := Hb1.out.cell (i := 2) rfl
    have b2c0 := Hb2.out.cell (i := 0) rfl
    have b2c1 := Hb2.out.cell (i := 1) rfl
    have b2c2 := Hb2.out.cell (i := 2) rfl
    cases d1
    · cases d2
      · go_wp2_with fail
        go_ret
        exact ⟨by first | rfl | simp, HB.out⟩
      · have hle2 := HG2.out rfl
        go_wp2_with fail
        go_ret
        exact ⟨by first | rfl | simp, HB.out⟩
    · obtain ⟨rfl, hle1⟩ := HG1.out rfl
      have hle2 := HG2.out rfl
      go_wp2_with fail
      go_ret
      exact ⟨by first | rfl | simp, HB.out⟩
  · have hle : F ≤ G := by omega
    obtain ⟨x, d1, hv1⟩ : ∃ x d, vis F ys = (x, d) := ⟨_, _, rfl⟩
    obtain ⟨y, d2, hv2⟩ : ∃ y d, vis G ys = (y, d) := ⟨_, _, rfl⟩
    have hgr := vis_grows HCHK.out hle
    rw [hv1, hv2] at hgr
    have hg1 : d1 = true → d2 = true ∧ x.1 ≤ y.1 := hgr.1
    have hg2 : d2 = true → y.1 ≤ G := hgr.2
    have HV1 := Lib.hid hv1
    have HV2 := Lib.hid hv2
    have HG1 := Lib.hid hg1
    have HG2 := Lib.hid hg2
    clear hv1 hv2 hgr hg1 hg2 hle
    go_wp2_with fail
    refine (visible_any A1 c1 ys F _ m HM.out (by omega) HRy.out x d1 HV1.out).mono ?_; rintro e w3 ⟨rfl, hB9⟩
    have hs9 := hB9.size
    replace HB := Lib.hid (HB.out.trans (hB9.mono hw))
    replace HRx := Lib.hid (HRx.out.below hB9 (Nat.le_refl _))
    replace HRy := Lib.hid (HRy.out.below hB9 (Nat.le_refl _))
    replace hw := Nat.le_trans hw hs9
    clear hB9 hs9
    go_wp2_with fail
    have Hb1 := Lib.hid (Blk.new w3 [.int .u64 (x.1 : Int), .string x.2.1, .bool x.2.2] 27)
    replace HRx := Lib.hid (HRx.out.below ((Below.refl _ _).alloc (Nat.le_refl _) (.cells #[.int .u64 (x.1 : Int), .string x.2.1, .bool x.2.2] 27)) (Nat.le_refl _))
    replace HRy := Lib.hid (HRy.out.below ((Below.refl _ _).alloc (Nat.le_refl _) (.cells #[.int .u64 (x.1 : Int), .string x.2.1, .bool x.2.2] 27)) (Nat.le_refl _))
    replace HB := Lib.hid (HB.out.alloc hw (.cells #[.int .u64 (x.1 : Int), .string x.2.1, .bool x.2.2] 27))
    have hz9 : (w3.alloc (.cells #[.int .u64 (x.1 : Int), .string x.2.1, .bool x.2.2] 27)).heap.size = w3.heap.size + 1 := nblk_alloc _ _
    generalize w3.alloc (.cells #[.int .u64 (x.1 : Int), .string x.2.1, .bool x.2.2] 27) = V4 at *
    generalize w3.heap.size = bb1 at *
    have ltb1 : bb1 < V4.heap.size := by omega
    replace hw : w.heap.size ≤ V4.heap.size := by omega
    clear hz9
    go_wp2_with fail
    refine (visible_any A1 c1 ys G _ m HM.out (by omega) HRy.out y d2 HV2.out).mono ?_; rintro e w5 ⟨rfl, hB9⟩
    have hs9 := hB9.size
    replace HB := Lib.hid (HB.out.trans (hB9.mono hw))
    replace Hb1 := Lib.hid (Hb1.out.below hB9 ltb1)
    replace ltb1 := Nat.lt_of_lt_of_le ltb1 hs9
    replace HRx := Lib.hid (HRx.out.below hB9 (Nat.le_refl _))
    replace HRy := Lib.hid (HRy.out.below hB9 (Nat.le_refl _))
    replace hw := Nat.le_trans hw hs9
    clear hB9 hs9
    go_wp2_with fail
    have Hb2 := Lib.hid (Blk.new w5 [.int .u64 (y.1 : Int), .string y.2.1, .bool y.2.2] 27)
    replace Hb1 := Lib.hid (Hb1.out.alloc (.cells #[.int .u64 (y.1 : Int), .string y.2.1, .bool y.2.2] 27))
    replace HRx := Lib.hid (HRx.out.below ((Below.refl _ _).alloc (Nat.le_refl _) (.cells #[.int .u64 (y.1 : Int), .string y.2.1, .bool y.2.2] 27)) (Nat.le_refl _))
    replace HRy := Lib.hid (HRy.out.below ((Below.refl _ _).alloc (Nat.le_refl _) (.cells #[.int .u64 (y.1 : Int), .string y.2.1, .bool y.2.2] 27)) (Nat.le_refl _))
    replace HB := Lib.hid (HB.out.alloc hw (.cells #[.int .u64 (y.1 : Int), .string y.2.1, .bool y.2.2] 27))
    have hz9 : (w5.alloc (.cells #[.int .u64 (y.1 : Int), .string y.2.1, .bool y.2.2] 27)).heap.size = w5.heap.size + 1 := nblk_alloc _ _
    generalize w5.alloc (.cells #[.int .u64 (y.1 : Int), .string y.2.1, .bool y.2.2] 27) = V6 at *
    generalize w5.heap.size = bb2 at *
    have ltb2 : bb2 < V6.heap.size := by omega
    replace ltb1 : bb1 < V6.heap.size := by omega
    replace hw : w.heap.size ≤ V6.heap.size := by omega
    clear hz9
    go_wp2_with fail
    refine (awake_any _).mono ?_; rintro e w7 ⟨rfl, hB9⟩
    have hs9 := hB9.size
    replace HB := Lib.hid (HB.out.trans (hB9.mono hw))
    replace Hb1 := Lib.hid (Hb1.out.below hB9 ltb1)
    replace ltb1 := Nat.lt_of_lt_of_le ltb1 hs9
    replace Hb2 := Lib.hid (Hb2.out.below hB9 ltb2)
    replace ltb2 := Nat.lt_of_lt_of_le ltb2 hs9
    replace HRx := Lib.hid (HRx.out.below hB9 (Nat.le_refl _))
    replace HRy := Lib.hid (HRy.out.below hB9 (Nat.le_refl _))
    replace hw := Nat.le_trans hw hs9
    clear hB9 hs9
    have b1c0 := Hb1.out.cell (i := 0) rfl
    have b1c1 := Hb1.out.cell (i := 1) rfl
    have b1c2 := Hb1.out.cell (i := 2) rfl
    have b2c0 := Hb2.out.cell (i := 0) rfl
    have b2c1 := Hb2.out.cell (i := 1) rfl
    have b2c2 := Hb2.out.cell (i := 2) rfl
    cases d1
    · cases d2
      · go_wp2_with fail
        go_ret
        exact ⟨by first | rfl | simp, HB.out⟩
      · have hle2 := HG2.out rfl
        go_wp2_with fail
        go_ret
        exact ⟨by first | rfl | simp, HB.out⟩
    · obtain ⟨rfl, hle1⟩ := HG1.out rfl
      have hle2 := HG2.out rfl
      go_wp2_with fail
      go_ret
      exact ⟨by first | rfl | simp, HB.out⟩

set_option maxRecDepth 100000 in
set_option maxHeartbeats 8000000 in
theorem lawNewest (w : World) (A : Option Addr) (c : Nat) (xs : List Ve) (n : Nat) (hn : xs.length = n) (h47 : n ≤ maxLen) (hR : Rv w A c xs) (time : Nat) (htime : time < 18446744073709551616) (p : Bool) :
    Calls Try.prog 6 #[.slice A n c, .int .u64 (time : Int), .bool p] w fun e w' => e = .returned (.bool true) ∧ Below w.heap.size w w' := by
  have HB := Lib.hid (Below.refl w.heap.size w)
  have hw : w.heap.size ≤ w.heap.size := Nat.le_refl _
  have HRx := Lib.hid hR
  clear hR
  obtain ⟨T, hT0⟩ : ∃ T : Nat, time % 100 = T := ⟨_, rfl⟩
  have hT1 : (time : Int) % 100 = (T : Int) := by omega
  have hT2 : (time : Int).tmod 100 = (T : Int) := by rw [Int.tmod_eq_emod_of_nonneg (by omega)]; omega
  have hT3 : T < 100 := by omega
  clear hT0
  go_enter Try.func6, Try.ntmps6
  go_wp2_with fail
  refine (valid_any A c xs p _ n hn h47 HRx.out).mono ?_; rintro e w2 ⟨A1, m, c1, ys, rfl, hm, hm30, hR1, hchk, hsm, hB9⟩
  have hs9 := hB9.size
  replace HB := Lib.hid (HB.out.trans (hB9.mono hw))
  replace HRx := Lib.hid (HRx.out.below hB9 (Nat.le_refl _))
  replace hw := Nat.le_trans hw hs9
  clear hB9 hs9
  have HM := Lib.hid hm
  have HCHK := Lib.hid hchk
  clear hm hchk hsm
  have HRy := Lib.hid hR1
  clear hR1
  go_wp2_with fail
  have HP0 := Lib.hid (Blk.new w2 [.int .u64 ((nul.1 : Nat) : Int), .string nul.2.1, .bool nul.2.2] 27)
  have HB0 := Lib.hid ((Below.refl w2.heap.size w2).alloc (Nat.le_refl _) (.cells #[.int .u64 0, .string ⟨#[]⟩, .bool false] 27))
  go_loopw [9] (fun i wr => ∃ (j : Nat) (best : Ve), j ≤ m ∧ i = .int .i64 j ∧ (vis T (ys.take j)).1 = best ∧ Blk wr w2.heap.size 27 [.int .u64 (best.1 : Int), .string best.2.1, .bool best.2.2] ∧ Below w2.heap.size w2 wr) (fun i _ => m - (intOf i).toNat)
  case atStart => exact ⟨0, nul, Nat.zero_le _, rfl, rfl, HP0.out, HB0.out⟩
  case round =>
    obtain ⟨j, best, hj, rfl, hbest, hP, hbel⟩ := hrel
    have HBEST := Lib.hid hbest
    have HP := Lib.hid hP
    have HL := Lib.hid hbel
    clear hbest
    by_cases hlt : j < m
    · obtain ⟨x, hx⟩ : ∃ x, ys[j]? = some x := ⟨_, List.getElem?_eq_getElem (by have := HM.out; omega)⟩
      obtain ⟨g, off, rfl, hg, hcell⟩ := (HRy.out.below hbel (Nat.le_refl _)).at (by have := HM.out; omega)
      obtain ⟨c0, c1', c2⟩ := hcell j x hx
      have p0 := hP.cell (i := 0) rfl
      have p1 := hP.cell (i := 1) rfl
      have p2 := hP.cell (i := 2) rfl
      have z0 := hP.frozen 0
      have z1 := hP.frozen 1
      have z2 := hP.frozen 2
      have hstep := best_take HCHK.out (t := T) hx
      rw [HBEST.out] at hstep
      clear hcell hx hbel hP
      by_cases h1 : x.1 ≤ T
      · have h1' : decide (x.1 ≤ T) = true := by simpa using h1
        by_cases h2 : best.1 < x.1
        · have h2' : decide (best.1 < x.1) = true := by simpa using h2
          rw [if_pos ⟨h1, h2⟩] at hstep
          have HST := Lib.hid hstep
          clear hstep
          go_wp2_with fail
          go_quiet (fail)
          go_wp2
          go_roundw
          case rel => exact ⟨j + 1, x, by omega, by go_num, HST.out, blk_drawn3 HP.out _, below_drawn3 HL.out _⟩
          case measure => simp [intOf]; omega
        · have h2' : decide (best.1 < x.1) = false := by simpa using h2
          rw [if_neg (fun h => h2 h.2)] at hstep
          have HST := Lib.hid hstep
          clear hstep
          go_wp2_with fail
          go_quiet (fail)
          go_wp2
          go_roundw
          case rel => exact ⟨j + 1, best, by omega, by go_num, HST.out, HP.out, below_drewN HL.out _⟩
          case measure => simp [intOf]; omega
      · have h1' : decide (x.1 ≤ T) = false := by simpa using h1
        rw [if_neg (fun h => h1 h.1)] at hstep
        have HST := Lib.hid hstep
        clear hstep
        go_wp2_with fail
        go_quiet (fail)
        go_wp2
        go_roundw
        case rel => exact ⟨j + 1, best, by omega, by go_num, HST.out, HP.out, below_drewN HL.out _⟩
        case measure => simp [intOf]; omega
    · obtain rfl : j = m := by omega
      have hb2 := HBEST.out
      rw [List.take_of_length_le (by have := HM.out; omega)] at hb2
      obtain ⟨x, d, hv⟩ : ∃ x d, vis T ys = (x, d) := ⟨_, _, rfl⟩
      obtain rfl : best = x := by rw [← hb2, hv]
      have hd : decide (0 < best.1) = d := by have h9 := vis_sees T ys; rw [hv] at h9; exact h9.symm
      have HV := Lib.hid hv
      replace HB := Lib.hid (HB.out.trans (hbel.mono hw))
      replace HRy := Lib.hid (HRy.out.below hbel (Nat.le_refl _))
      replace HRx := Lib.hid (HRx.out.below hbel (Nat.le_refl _))
      have ltbb := HP.out.lt
      have hs9 := hbel.size
      have Hbb := HP
      replace hw := Nat.le_trans hw hs9
      generalize w2.heap.size = bbb at *
      clear hb2 hv hbel hP HP HL hs9 HBEST HP0 HB0
      go_wp2_with fail
      refine (visible_any A1 c1 ys T _ j HM.out (by omega) HRy.out best d HV.out).mono ?_; rintro e w4 ⟨rfl, hB9⟩
      have hs9 := hB9.size
      replace HB := Lib.hid (HB.out.trans (hB9.mono hw))
      replace Hbb := Lib.hid (Hbb.out.below hB9 ltbb)
      replace ltbb := Nat.lt_of_lt_of_le ltbb hs9
      replace HRx := Lib.hid (HRx.out.below hB9 (Nat.le_refl _))
      replace HRy := Lib.hid (HRy.out.below hB9 (Nat.le_refl _))
      replace hw := Nat.le_trans hw hs9
      clear hB9 hs9
      go_wp2_with fail
      have Hv := Lib.hid (Blk.new w4 [.int .u64 (best.1 : Int), .string best.2.1, .bool best.2.2] 27)
      replace Hbb := Lib.hid (Hbb.out.alloc (.cells #[.int .u64 (best.1 : Int), .string best.2.1, .bool best.2.2] 27))
      replace HRx := Lib.hid (HRx.out.below ((Below.refl _ _).alloc (Nat.le_refl _) (.cells #[.int .u64 (best.1 : Int), .string best.2.1, .bool best.2.2] 27)) (Nat.le_refl _))
      replace HRy := Lib.hid (HRy.out.below ((Below.refl _ _).alloc (Nat.le_refl _) (.cells #[.int .u64 (best.1 : Int), .string best.2.1, .bool best.2.2] 27)) (Nat.le_refl _))
      replace HB := Lib.hid (HB.out.alloc hw (.cells #[.int .u64 (best.1 : Int), .string best.2.1, .bool best.2.2] 27))
      have hz9 : (w4.alloc (.cells #[.int .u64 (best.1 : Int), .string best.2.1, .bool best.2.2] 27)).heap.size = w4.heap.size + 1 := nblk_alloc _ _
      generalize w4.alloc (.cells #[.int .u64 (best.1 : Int), .string best.2.1, .bool best.2.2] 27) = V5 at *
      generalize w4.heap.size = bv at *
      have ltv : bv < V5.heap.size := by omega
      replace ltbb : bbb < V5.heap.size := by omega
      replace hw : w.heap.size ≤ V5.heap.size := by omega
      clear hz9
      go_wp2_with fail
      refine (awake_any _).mono ?_; rintro e w6 ⟨rfl, hB9⟩
      have hs9 := hB9.size
      replace HB := Lib.hid (HB.out.trans (hB9.mono hw))
      replace Hbb := Lib.hid (Hbb.out.below hB9 ltbb)
      replace ltbb := Nat.lt_of_lt_of_le ltbb hs9
      replace Hv := Lib.hid (Hv.out.below hB9 ltv)
      replace ltv := Nat.lt_of_lt_of_le ltv hs9
      replace HRx := Lib.hid (HRx.out.below hB9 (Nat.le_refl _))
      replace HRy := Lib.hid (HRy.out.below hB9 (Nat.le_refl _))
      replace hw := Nat.le_trans hw hs9
      clear hB9 hs9
      have bbc0 := Hbb.out.cell (i := 0) rfl
      have bbc1 := Hbb.out.cell (i := 1) rfl
      have bbc2 := Hbb.out.cell (i := 2) rfl
      have vc0 := Hv.out.cell (i := 0) rfl
      have vc1 := Hv.out.cell (i := 1) rfl
      have vc2 := Hv.out.cell (i := 2) rfl
      cases d
      · go_wp2_with fail
        go_ret
        exact ⟨by first | rfl | simp, HB.out⟩
      · go_wp2_with fail
        go_ret
        exact ⟨by first | rfl | simp, HB.out⟩
end Go.Proofs.Ytmaadlkojcekgaa
