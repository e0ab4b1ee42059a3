/-
  RecordAgrees of the statements about chains, walked. Condition: arguments within the model's reach.
-/
import Derived.Test.YtmaadlkojcekgaaRecVal
import Derived.Test.YtmaadlkojcekgaaRecTms
import Derived.Deep.DeepCutAuto
import Derived.Deep.CutBlock
namespace Go.Proofs.Ytmaadlkojcekgaa
open Go.RowKit Go.Deep Plain
set_option linter.unusedVariables false

set_option maxRecDepth 100000 in
set_option maxHeartbeats 8000000 in
theorem lawAgrees (w : World) (A : Option Addr) (c : Nat) (xs : List Ve) (n : Nat) (hn : xs.length = n) (h47 : n ≤ maxLen) (hR : Rv w A c xs) (time : Nat) (htime : time < 18446744073709551616) (p : Bool) :
    Calls Try.prog 3 #[.slice A n c, .int .u64 (time : Int), .bool p] w fun e w' => e = .returned (.bool true) ∧ Below w.heap.size w w' := by
  have HB := Lib.hid (Below.refl w.heap.size w)
  have hw : w.heap.size ≤ w.heap.size := Nat.le_refl _
  have HRx := Lib.hid hR
  clear hR
  by_cases h60 : 60 < n
  · have h60' : decide ((60 : Int) < (n : Int)) = true := by simp; omega
    go_enter Try.func3, Try.ntmps3
    go_wp2_with fail
    refine (awake_any _).mono ?_; rintro e w2 ⟨rfl, hB9⟩
    have hs9 := hB9.size
    replace HB := Lib.hid (HB.out.trans (hB9.mono hw))
    replace HRx := Lib.hid (HRx.out.below hB9 (Nat.le_refl _))
    replace hw := Nat.le_trans hw hs9
    clear hB9 hs9
    go_wp2_with fail
    go_ret
    exact ⟨rfl, HB.out⟩
  have h60' : decide ((60 : Int) < (n : Int)) = false := by simp; omega
  have hn60 : n ≤ 60 := by omega
  clear h60
  go_enter Try.func3, Try.ntmps3
  go_wp2_with fail
  go_loopw [7, 1] (fun i t wr => ∃ (k T : Nat), k ≤ 3 ∧ i = .int .i64 k ∧ t = .int .u64 T ∧ Below w.heap.size w wr) (fun i _ _ => 3 - (intOf i).toNat)
  case atStart => exact ⟨0, time, by omega, rfl, rfl, HB.out⟩
  case round =>
    obtain ⟨k, T, hk, rfl, rfl, hbel⟩ := hrel
    replace HB := Lib.hid hbel
    replace HRx := Lib.hid (HRx.out.below hbel (Nat.le_refl _))
    replace hw := hbel.size
    clear hbel
    by_cases hlt : k < 3
    · go_upto_if 28 with fail
      go_cut [8, 1] from 22 to 119 (fun l t wx => ∃ (A8 : Option Addr) (c8 n8 : Nat) (zs : List Ve) (T8 : Nat), l = .slice A8 n8 c8 ∧ zs.length = n8 ∧ n8 ≤ 60 ∧ t = .int .u64 T8 ∧ Rv wx A8 c8 zs ∧ Rv wx A c xs ∧ Below w.heap.size w wx)
      case first =>
        by_cases hk0 : k = 0
        · have hk0' : decide ((0 : Int) < (k : Int)) = false := by simp; omega
          have hk0'' : decide (0 < k) = false := by simp; omega
          have hk00 : ¬ 0 < k := by omega
          clear hk0
          go_wp2
          go_meet
          exact ⟨_, _, _, xs, T, rfl, hn, hn60, rfl, HRx.out, HRx.out, HB.out⟩
        · have hk0' : decide ((0 : Int) < (k : Int)) = true := by simp; omega
          have hk0'' : decide (0 < k) = true := by simp; omega
          have hk00 : 0 < k := by omega
          obtain ⟨F, hF0⟩ : ∃ F : Nat, T % 100 = F := ⟨_, rfl⟩
          have hF1 : (T : Int) % 100 = (F : Int) := by omega
          have hF2 : (T : Int).tmod 100 = (F : Int) := by rw [Int.tmod_eq_emod_of_nonneg (by omega)]; omega
          clear hk0 hF0
          go_wp2_with fail
          refine (valid_any A c xs p _ n hn h47 HRx.out).mono ?_; rintro e w3 ⟨A1, m, c1, ys, rfl, hm, hm30, hR1, hchk, hsm, hB9⟩
          have hs9 := hB9.size
          replace HB := Lib.hid (HB.out.trans (hB9.mono hw))
          replace HRx := Lib.hid (HRx.out.below hB9 (Nat.le_refl _))
          replace hw := Nat.le_trans hw hs9
          clear hB9 hs9
          have HM := Lib.hid hm
          have HCHK := Lib.hid hchk
          clear hm hchk hsm
          have HRy := Lib.hid hR1
          clear hR1
          go_wp2_with fail
          go_meet
          exact ⟨_, _, _, ys, F, rfl, HM.out, by omega, rfl, HRy.out, HRx.out, HB.out⟩
      case rest =>
      clear HB HRx hw
      rename World => W1
      obtain ⟨A8, c8, n8, zs, T8, rfl, hn8, hn860, rfl, hr8, hrx, hb8⟩ := hcut
      have HRz := Lib.hid hr8
      have HRx := Lib.hid hrx
      have HB := Lib.hid hb8
      have hw := hb8.size
      have HN8 := Lib.hid hn8
      clear hr8 hb8 hn8 hrx
      go_wp2_with (at_builtin; go_must (refine wpList_app rfl (.const (.slice none 0 0)) (.tmp 34) rfl W1.heap.size _ 0 [] rfl (World.ownsRow_nil _ _ _ _) A8 n8 c8 zs rfl HN8.out HRz.out (by omega) (Nat.le_refl _) ?_))
      intro v31 w31 hown hB9
      try rw [List.nil_append] at hown
      try rw [Nat.zero_add] at hown
      obtain ⟨A9, c9, rfl, _, hR9, _⟩ := Rv.own hown
      clear hown
      have hs9 := hB9.size
      replace HB := Lib.hid (HB.out.trans (hB9.mono hw))
      replace HRx := Lib.hid (HRx.out.below hB9 (Nat.le_refl _))
      replace HRz := Lib.hid (HRz.out.below hB9 (Nat.le_refl _))
      replace hw := Nat.le_trans hw hs9
      clear hB9 hs9
      have HRu := Lib.hid hR9
      clear hR9
      obtain ⟨x, d, hv⟩ : ∃ x d, vis T8 zs = (x, d) := ⟨_, _, rfl⟩
      obtain ⟨sv, e1, hsv⟩ : ∃ sv e1, val T8 zs = (sv, e1) := ⟨_, _, rfl⟩
      obtain ⟨cb, hcb⟩ := bool_ex (ChkI zs)
      obtain ⟨k1, hk1⟩ : ∃ k, cutAt T8 zs = k := ⟨_, rfl⟩
      have hk1m : k1 ≤ 60 := by rw [← hk1]; have := cutAt_le T8 zs; rw [HN8.out] at this; omega
      obtain ⟨db, hdb⟩ : ∃ d, dead T8 zs = d := ⟨_, rfl⟩
      obtain ⟨m2, hm2⟩ : ∃ m2, (tms zs).length = m2 := ⟨_, rfl⟩
      have hm2m : m2 ≤ 60 := by rw [← hm2]; have := tms_length_le zs; rw [HN8.out] at this; omega
      have HV := Lib.hid hv
      have HSV := Lib.hid hsv
      have HCB := Lib.hid hcb
      have HK1 := Lib.hid hk1
      have HDB := Lib.hid hdb
      have HM2 := Lib.hid hm2
      clear hv hsv hcb hk1 hdb hm2
      go_wp2_with fail
      refine (visible_any A8 c8 zs T8 _ n8 HN8.out (by omega) HRz.out x d HV.out).mono ?_; rintro e w32 ⟨rfl, hB9⟩
      have hs9 := hB9.size
      replace HB := Lib.hid (HB.out.trans (hB9.mono hw))
      replace HRx := Lib.hid (HRx.out.below hB9 (Nat.le_refl _))
      replace HRz := Lib.hid (HRz.out.below hB9 (Nat.le_refl _))
      replace HRu := Lib.hid (HRu.out.below hB9 (Nat.le_refl _))
      replace hw := Nat.le_trans hw hs9
      clear hB9 hs9
      go_wp2_with fail
      have Hb1 := Lib.hid (Blk.new w32 [.int .u64 (x.1 : Int), .string x.2.1, .bool x.2.2] 27)
      replace HRx := Lib.hid (HRx.out.below ((Below.refl _ _).alloc (Nat.le_refl _) (.cells #[.int .u64 (x.1 : Int), .string x.2.1, .bool x.2.2] 27)) (Nat.le_refl _))
      replace HRz := Lib.hid (HRz.out.below ((Below.refl _ _).alloc (Nat.le_refl _) (.cells #[.int .u64 (x.1 : Int), .string x.2.1, .bool x.2.2] 27)) (Nat.le_refl _))
      replace HRu := Lib.hid (HRu.out.below ((Below.refl _ _).alloc (Nat.le_refl _) (.cells #[.int .u64 (x.1 : Int), .string x.2.1, .bool x.2.2] 27)) (Nat.le_refl _))
      replace HB := Lib.hid (HB.out.alloc hw (.cells #[.int .u64 (x.1 : Int), .string x.2.1, .bool x.2.2] 27))
      have hz9 : (w32.alloc (.cells #[.int .u64 (x.1 : Int), .string x.2.1, .bool x.2.2] 27)).heap.size = w32.heap.size + 1 := nblk_alloc _ _
      generalize w32.alloc (.cells #[.int .u64 (x.1 : Int), .string x.2.1, .bool x.2.2] 27) = V33 at *
      generalize w32.heap.size = bb1 at *
      have ltb1 : bb1 < V33.heap.size := by omega
      replace hw : w.heap.size ≤ V33.heap.size := by omega
      clear hz9
      go_wp2_with fail
      refine (refVisible_any A8 c8 zs T8 _ n8 HN8.out (by omega) HRz.out x d HV.out).mono ?_; rintro e w34 ⟨rfl, hB9⟩
      have hs9 := hB9.size
      replace HB := Lib.hid (HB.out.trans (hB9.mono hw))
      replace Hb1 := Lib.hid (Hb1.out.below hB9 ltb1)
      replace ltb1 := Nat.lt_of_lt_of_le ltb1 hs9
      replace HRx := Lib.hid (HRx.out.below hB9 (Nat.le_refl _))
      replace HRz := Lib.hid (HRz.out.below hB9 (Nat.le_refl _))
      replace HRu := Lib.hid (HRu.out.below hB9 (Nat.le_refl _))
      replace hw := Nat.le_trans hw hs9
      clear hB9 hs9
      go_wp2_with fail
      have Hb2 := Lib.hid (Blk.new w34 [.int .u64 (x.1 : Int), .string x.2.1, .bool x.2.2] 27)
      replace Hb1 := Lib.hid (Hb1.out.alloc (.cells #[.int .u64 (x.1 : Int), .string x.2.1, .bool x.2.2] 27))
      replace HRx := Lib.hid (HRx.out.below ((Below.refl _ _).alloc (Nat.le_refl _) (.cells #[.int .u64 (x.1 : Int), .string x.2.1, .bool x.2.2] 27)) (Nat.le_refl _))
      replace HRz := Lib.hid (HRz.out.below ((Below.refl _ _).alloc (Nat.le_refl _) (.cells #[.int .u64 (x.1 : Int), .string x.2.1, .bool x.2.2] 27)) (Nat.le_refl _))
      replace HRu := Lib.hid (HRu.out.below ((Below.refl _ _).alloc (Nat.le_refl _) (.cells #[.int .u64 (x.1 : Int), .string x.2.1, .bool x.2.2] 27)) (Nat.le_refl _))
      replace HB := Lib.hid (HB.out.alloc hw (.cells #[.int .u64 (x.1 : Int), .string x.2.1, .bool x.2.2] 27))
      have hz9 : (w34.alloc (.cells #[.int .u64 (x.1 : Int), .string x.2.1, .bool x.2.2] 27)).heap.size = w34.heap.size + 1 := nblk_alloc _ _
      generalize w34.alloc (.cells #[.int .u64 (x.1 : Int), .string x.2.1, .bool x.2.2] 27) = V35 at *
      generalize w34.heap.size = bb2 at *
      have ltb2 : bb2 < V35.heap.size := by omega
      replace ltb1 : bb1 < V35.heap.size := by omega
      replace hw : w.heap.size ≤ V35.heap.size := by omega
      clear hz9
      go_wp2_with fail
      refine (value_any A8 c8 zs T8 _ n8 HN8.out (by omega) HRz.out sv e1 HSV.out).mono ?_; rintro e w36 ⟨rfl, hB9⟩
      have hs9 := hB9.size
      replace HB := Lib.hid (HB.out.trans (hB9.mono hw))
      replace Hb1 := Lib.hid (Hb1.out.below hB9 ltb1)
      replace ltb1 := Nat.lt_of_lt_of_le ltb1 hs9
      replace Hb2 := Lib.hid (Hb2.out.below hB9 ltb2)
      replace ltb2 := Nat.lt_of_lt_of_le ltb2 hs9
      replace HRx := Lib.hid (HRx.out.below hB9 (Nat.le_refl _))
      replace HRz := Lib.hid (HRz.out.below hB9 (Nat.le_refl _))
      replace HRu := Lib.hid (HRu.out.below hB9 (Nat.le_refl _))
      replace hw := Nat.le_trans hw hs9
      clear hB9 hs9
      go_wp2_with fail
      refine (refValue_any A8 c8 zs T8 _ n8 HN8.out (by omega) HRz.out sv e1 HSV.out).mono ?_; rintro e w37 ⟨rfl, hB9⟩
      have hs9 := hB9.size
      replace HB := Lib.hid (HB.out.trans (hB9.mono hw))
      replace Hb1 := Lib.hid (Hb1.out.below hB9 ltb1)
      replace ltb1 := Nat.lt_of_lt_of_le ltb1 hs9
      replace Hb2 := Lib.hid (Hb2.out.below hB9 ltb2)
      replace ltb2 := Nat.lt_of_lt_of_le ltb2 hs9
      replace HRx := Lib.hid (HRx.out.below hB9 (Nat.le_refl _))
      replace HRz := Lib.hid (HRz.out.below hB9 (Nat.le_refl _))
      replace HRu := Lib.hid (HRu.out.below hB9 (Nat.le_refl _))
      replace hw := Nat.le_trans hw hs9
      clear hB9 hs9
      have b1c0 := Hb1.out.cell (i := 0) rfl
      have b1c1 := Hb1.out.cell (i := 1) rfl
      have b1c2 := Hb1.out.cell (i := 2) rfl
      have b2c0 := Hb2.out.cell (i := 0) rfl
      have b2c1 := Hb2.out.cell (i := 1) rfl
      have b2c2 := Hb2.out.cell (i := 2) rfl
      go_wp2_with fail
      refine (check_any A8 c8 zs _ n8 HN8.out (by omega) HRz.out cb HCB.out).mono ?_; rintro e w38 ⟨rfl, hB9⟩
      clear b1c0 b1c1 b1c2 b2c0 b2c1 b2c2
      have hs9 := hB9.size
      replace HB := Lib.hid (HB.out.trans (hB9.mono hw))
      replace Hb1 := Lib.hid (Hb1.out.below hB9 ltb1)
      replace ltb1 := Nat.lt_of_lt_of_le ltb1 hs9
      replace Hb2 := Lib.hid (Hb2.out.below hB9 ltb2)
      replace ltb2 := Nat.lt_of_lt_of_le ltb2 hs9
      replace HRx := Lib.hid (HRx.out.below hB9 (Nat.le_refl _))
      replace HRz := Lib.hid (HRz.out.below hB9 (Nat.le_refl _))
      replace HRu := Lib.hid (HRu.out.below hB9 (Nat.le_refl _))
      replace hw := Nat.le_trans hw hs9
      clear hB9 hs9
      go_wp2_with fail
      refine (refCheck_any A8 c8 zs _ n8 HN8.out (by omega) HRz.out cb HCB.out).mono ?_; rintro e w39 ⟨rfl, hB9⟩
      have hs9 := hB9.size
      replace HB := Lib.hid (HB.out.trans (hB9.mono hw))
      replace Hb1 := Lib.hid (Hb1.out.below hB9 ltb1)
      replace ltb1 := Nat.lt_of_lt_of_le ltb1 hs9
      replace Hb2 := Lib.hid (Hb2.out.below hB9 ltb2)
      replace ltb2 := Nat.lt_of_lt_of_le ltb2 hs9
      replace HRx := Lib.hid (HRx.out.below hB9 (Nat.le_refl _))
      replace HRz := Lib.hid (HRz.out.below hB9 (Nat.le_refl _))
      replace HRu := Lib.hid (HRu.out.below hB9 (Nat.le_refl _))
      replace hw := Nat.le_trans hw hs9
      clear hB9 hs9
      go_wp2_with fail
      refine (cut_any A8 c8 zs T8 _ n8 HN8.out (by omega) HRz.out k1 HK1.out).mono ?_; rintro e w40 ⟨A2, c2, rfl, hR2, hB9⟩
      have hs9 := hB9.size
      replace HB := Lib.hid (HB.out.trans (hB9.mono hw))
      replace Hb1 := Lib.hid (Hb1.out.below hB9 ltb1)
      replace ltb1 := Nat.lt_of_lt_of_le ltb1 hs9
      replace Hb2 := Lib.hid (Hb2.out.below hB9 ltb2)
      replace ltb2 := Nat.lt_of_lt_of_le ltb2 hs9
      replace HRx := Lib.hid (HRx.out.below hB9 (Nat.le_refl _))
      replace HRz := Lib.hid (HRz.out.below hB9 (Nat.le_refl _))
      replace HRu := Lib.hid (HRu.out.below hB9 (Nat.le_refl _))
      replace hw := Nat.le_trans hw hs9
      clear hB9 hs9
      have HRv := Lib.hid hR2
      clear hR2
      go_wp2_with fail
      refine (refCut_any A8 c8 zs T8 _ n8 HN8.out (by omega) HRz.out k1 HK1.out).mono ?_; rintro e w41 ⟨A3, c3, rfl, hR3, hB9⟩
      have hs9 := hB9.size
      replace HB := Lib.hid (HB.out.trans (hB9.mono hw))
      replace Hb1 := Lib.hid (Hb1.out.below hB9 ltb1)
      replace ltb1 := Nat.lt_of_lt_of_le ltb1 hs9
      replace Hb2 := Lib.hid (Hb2.out.below hB9 ltb2)
      replace ltb2 := Nat.lt_of_lt_of_le ltb2 hs9
      replace HRx := Lib.hid (HRx.out.below hB9 (Nat.le_refl _))
      replace HRz := Lib.hid (HRz.out.below hB9 (Nat.le_refl _))
      replace HRu := Lib.hid (HRu.out.below hB9 (Nat.le_refl _))
      replace HRv := Lib.hid (HRv.out.below hB9 (Nat.le_refl _))
      replace hw := Nat.le_trans hw hs9
      clear hB9 hs9
      have HRt := Lib.hid hR3
      clear hR3
      go_wp2_with fail
      refine (same_any A2 A3 c2 c3 (cut T8 zs) _ k1 ((cut_length _ _).trans HK1.out) (by omega) HRv.out HRt.out).mono ?_; rintro e w42 ⟨rfl, hB9⟩
      have hs9 := hB9.size
      replace HB := Lib.hid (HB.out.trans (hB9.mono hw))
      replace Hb1 := Lib.hid (Hb1.out.below hB9 ltb1)
      replace ltb1 := Nat.lt_of_lt_of_le ltb1 hs9
      replace Hb2 := Lib.hid (Hb2.out.below hB9 ltb2)
      replace ltb2 := Nat.lt_of_lt_of_le ltb2 hs9
      replace HRx := Lib.hid (HRx.out.below hB9 (Nat.le_refl _))
      replace HRz := Lib.hid (HRz.out.below hB9 (Nat.le_refl _))
      replace HRu := Lib.hid (HRu.out.below hB9 (Nat.le_refl _))
      replace HRv := Lib.hid (HRv.out.below hB9 (Nat.le_refl _))
      replace HRt := Lib.hid (HRt.out.below hB9 (Nat.le_refl _))
      replace hw := Nat.le_trans hw hs9
      clear hB9 hs9
      clear HRv HRt
      go_wp2_with fail
      refine (dead_any A8 c8 zs T8 _ n8 HN8.out (by omega) HRz.out db HDB.out).mono ?_; rintro e w43 ⟨rfl, hB9⟩
      have hs9 := hB9.size
      replace HB := Lib.hid (HB.out.trans (hB9.mono hw))
      replace Hb1 := Lib.hid (Hb1.out.below hB9 ltb1)
      replace ltb1 := Nat.lt_of_lt_of_le ltb1 hs9
      replace Hb2 := Lib.hid (Hb2.out.below hB9 ltb2)
      replace ltb2 := Nat.lt_of_lt_of_le ltb2 hs9
      replace HRx := Lib.hid (HRx.out.below hB9 (Nat.le_refl _))
      replace HRz := Lib.hid (HRz.out.below hB9 (Nat.le_refl _))
      replace HRu := Lib.hid (HRu.out.below hB9 (Nat.le_refl _))
      replace hw := Nat.le_trans hw hs9
      clear hB9 hs9
      go_wp2_with fail
      refine (refDead_any A8 c8 zs T8 _ n8 HN8.out (by omega) HRz.out db HDB.out).mono ?_; rintro e w44 ⟨rfl, hB9⟩
      have hs9 := hB9.size
      replace HB := Lib.hid (HB.out.trans (hB9.mono hw))
      replace Hb1 := Lib.hid (Hb1.out.below hB9 ltb1)
      replace ltb1 := Nat.lt_of_lt_of_le ltb1 hs9
      replace Hb2 := Lib.hid (Hb2.out.below hB9 ltb2)
      replace ltb2 := Nat.lt_of_lt_of_le ltb2 hs9
      replace HRx := Lib.hid (HRx.out.below hB9 (Nat.le_refl _))
      replace HRz := Lib.hid (HRz.out.below hB9 (Nat.le_refl _))
      replace HRu := Lib.hid (HRu.out.below hB9 (Nat.le_refl _))
      replace hw := Nat.le_trans hw hs9
      clear hB9 hs9
      go_wp2_with fail
      refine (times_any A8 c8 zs _ n8 HN8.out (by omega) HRz.out m2 HM2.out).mono ?_; rintro e w45 ⟨A4, c4, rfl, hR4, hB9⟩
      have hs9 := hB9.size
      replace HB := Lib.hid (HB.out.trans (hB9.mono hw))
      replace Hb1 := Lib.hid (Hb1.out.below hB9 ltb1)
      replace ltb1 := Nat.lt_of_lt_of_le ltb1 hs9
      replace Hb2 := Lib.hid (Hb2.out.below hB9 ltb2)
      replace ltb2 := Nat.lt_of_lt_of_le ltb2 hs9
      replace HRx := Lib.hid (HRx.out.below hB9 (Nat.le_refl _))
      replace HRz := Lib.hid (HRz.out.below hB9 (Nat.le_refl _))
      replace HRu := Lib.hid (HRu.out.below hB9 (Nat.le_refl _))
      replace hw := Nat.le_trans hw hs9
      clear hB9 hs9
      have HRv := Lib.hid hR4
      clear hR4
      go_wp2_with fail
      refine (refTimes_any A8 c8 zs _ n8 HN8.out (by omega) HRz.out m2 HM2.out).mono ?_; rintro e w46 ⟨A5, c5, rfl, hR5, hB9⟩
      have hs9 := hB9.size
      replace HB := Lib.hid (HB.out.trans (hB9.mono hw))
      replace Hb1 := Lib.hid (Hb1.out.below hB9 ltb1)
      replace ltb1 := Nat.lt_of_lt_of_le ltb1 hs9
      replace Hb2 := Lib.hid (Hb2.out.below hB9 ltb2)
      replace ltb2 := Nat.lt_of_lt_of_le ltb2 hs9
      replace HRx := Lib.hid (HRx.out.below hB9 (Nat.le_refl _))
      replace HRz := Lib.hid (HRz.out.below hB9 (Nat.le_refl _))
      replace HRu := Lib.hid (HRu.out.below hB9 (Nat.le_refl _))
      replace HRv := Lib.hid (HRv.out.below hB9 (Nat.le_refl _))
      replace hw := Nat.le_trans hw hs9
      clear hB9 hs9
      have HRt := Lib.hid hR5
      clear hR5
      go_wp2_with fail
      refine (sameW_any A4 A5 c4 c5 (tms zs) _ m2 HM2.out (by omega) HRv.out HRt.out).mono ?_; rintro e w47 ⟨rfl, hB9⟩
      have hs9 := hB9.size
      replace HB := Lib.hid (HB.out.trans (hB9.mono hw))
      replace Hb1 := Lib.hid (Hb1.out.below hB9 ltb1)
      replace ltb1 := Nat.lt_of_lt_of_le ltb1 hs9
      replace Hb2 := Lib.hid (Hb2.out.below hB9 ltb2)
      replace ltb2 := Nat.lt_of_lt_of_le ltb2 hs9
      replace HRx := Lib.hid (HRx.out.below hB9 (Nat.le_refl _))
      replace HRz := Lib.hid (HRz.out.below hB9 (Nat.le_refl _))
      replace HRu := Lib.hid (HRu.out.below hB9 (Nat.le_refl _))
      replace HRv := Lib.hid (HRv.out.below hB9 (Nat.le_refl _))
      replace HRt := Lib.hid (HRt.out.below hB9 (Nat.le_refl _))
      replace hw := Nat.le_trans hw hs9
      clear hB9 hs9
      clear HRv HRt
      go_wp2_with fail
      refine (same_any A8 A9 c8 c9 zs _ n8 HN8.out (by omega) HRz.out HRu.out).mono ?_; rintro e w48 ⟨rfl, hB9⟩
      have hs9 := hB9.size
      replace HB := Lib.hid (HB.out.trans (hB9.mono hw))
      replace Hb1 := Lib.hid (Hb1.out.below hB9 ltb1)
      replace ltb1 := Nat.lt_of_lt_of_le ltb1 hs9
      replace Hb2 := Lib.hid (Hb2.out.below hB9 ltb2)
      replace ltb2 := Nat.lt_of_lt_of_le ltb2 hs9
      replace HRx := Lib.hid (HRx.out.below hB9 (Nat.le_refl _))
      replace HRz := Lib.hid (HRz.out.below hB9 (Nat.le_refl _))
      replace HRu := Lib.hid (HRu.out.below hB9 (Nat.le_refl _))
      replace hw := Nat.le_trans hw hs9
      clear hB9 hs9
      obtain ⟨F, hF0⟩ : ∃ F : Nat, T8 % 40 = F := ⟨_, rfl⟩
      have hF1 : (T8 : Int) % 40 = (F : Int) := by omega
      have hF2 : (T8 : Int).tmod 40 = (F : Int) := by rw [Int.tmod_eq_emod_of_nonneg (by omega)]; omega
      clear hF0
      go_wp2_with fail
      go_roundw
      case rel => exact ⟨k + 1, F, by omega, by go_num, by first | rfl | trivial, HB.out⟩
      case measure => simp [intOf]; omega
    · obtain rfl : k = 3 := by omega
      go_wp2_with fail
      refine (awake_any _).mono ?_; rintro e w61 ⟨rfl, hB9⟩
      have hs9 := hB9.size
      replace HB := Lib.hid (HB.out.trans (hB9.mono hw))
      replace HRx := Lib.hid (HRx.out.below hB9 (Nat.le_refl _))
      replace hw := Nat.le_trans hw hs9
      clear hB9 hs9
      go_wp2_with fail
      refine (valid_any A c xs p _ n hn h47 HRx.out).mono ?_; rintro e w62 ⟨A1, m, c1, ys, rfl, hm, hm30, hR1, hchk, hsm, hB9⟩
      have hs9 := hB9.size
      replace HB := Lib.hid (HB.out.trans (hB9.mono hw))
      replace HRx := Lib.hid (HRx.out.below hB9 (Nat.le_refl _))
      replace hw := Nat.le_trans hw hs9
      clear hB9 hs9
      have HM := Lib.hid hm
      have HCHK := Lib.hid hchk
      clear hm hchk hsm
      have HRy := Lib.hid hR1
      clear hR1
      go_wp2_with fail
      refine (check_any A1 c1 ys _ m HM.out (by omega) HRy.out true ⟨fun _ => HCHK.out, fun _ => rfl⟩).mono ?_; rintro e w63 ⟨rfl, hB9⟩
      have hs9 := hB9.size
      replace HB := Lib.hid (HB.out.trans (hB9.mono hw))
      replace HRx := Lib.hid (HRx.out.below hB9 (Nat.le_refl _))
      replace HRy := Lib.hid (HRy.out.below hB9 (Nat.le_refl _))
      replace hw := Nat.le_trans hw hs9
      clear hB9 hs9
      go_wp2_with fail
      go_ret
      exact ⟨by first | rfl | simp, HB.out⟩
end Go.Proofs.Ytmaadlkojcekgaa
