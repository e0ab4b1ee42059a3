/-
  ChainRestoreUndoes of the statements about chains in memory, walked. Condition: arguments within the model's reach.
-/
import Derived.Test.YtlooekocfcnbiaaChnLawC
import Derived.Test.YtlooekocfcnbiaaQuietTail
namespace Go.Proofs.Ytlooekocfcnbiaa
open Go.RowKit Go.Deep Plain
set_option linter.unusedVariables false

set_option maxRecDepth 100000 in
set_option maxHeartbeats 8000000 in
theorem lawChainRestoreUndoes (w : World) (A : Option Addr) (c : Nat) (xs : List Stp) (n : Nat) (hn : xs.length = n) (h47 : n ≤ maxLen) (hx : Rp w A c xs) (value : ByteArray) (hvs : value.size ≤ maxLen) (del : Bool) (time : Nat) (htime : time < 18446744073709551616) :
    Calls Try.prog 5 #[.slice A n c, .string value, .bool del, .int .u64 (time : Int)] w fun e w' => e = .returned (.bool true) ∧ Below w.heap.size w w' := by
  obtain ⟨T, hT0⟩ : ∃ T : Nat, time % 30 = T := ⟨_, rfl⟩
  have hT1 : (time : Int) % 30 = (T : Int) := by omega
  have hT2 : (time : Int).tmod 30 = (T : Int) := by rw [Int.tmod_eq_emod_of_nonneg (by omega)]; omega
  have hT3 : T < 30 := by omega
  clear hT0
  have Hx := Lib.hid hx
  clear hx
  go_enter Try.func5, Try.ntmps5
  go_wp2_with fail
  refine (kitConfig_any 1 _).mono ?_; rintro e w0 ⟨rfl, hK0⟩
  have hs0 := hK0.size
  have HK0 := Lib.hid hK0
  clear hK0
  go_wp2_with fail
  refine (kitMem _).mono ?_; rintro e w1 ⟨b, g, l, rfl, hM1, hD1, hb1, hg1, hK1⟩
  have hbw : w.heap.size ≤ b := by omega
  have hgw : w.heap.size ≤ g := by omega
  have hbs := hM1.obj.lt
  have hgs := hM1.row.lt
  have HK := Lib.hid (((HK0.out.mono (T := Own b g) (fun _ h => h.elim)).trans hK1 (fun _ _ h => h.elim)).alloc (.cells #[.int .i64 1, .int .i64 2, .int .i64 100, .int .i64 100, .int .i64 200, .int .i64 4, .int .u64 1000, .int .i64 10, .int .i64 810, .int .i64 910] 27))
  have HW := Lib.hid (Wx.start (B := w.heap.size) hM1 hD1 hbw hgw)
  clear hM1 hD1 hK1 HK0 hs0 hb1 hg1
  go_wp2_with fail
  refine (awake_any _).mono ?_; rintro e w2 ⟨rfl, hK2⟩
  replace HW := Lib.hid (HW.out.kept hK2)
  replace HK := Lib.hid (HK.out.trans hK2 (fun _ _ h => h.elim))
  clear hK2
  by_cases h12 : 10 < n
  · go_wp2_with fail
    refine (awake_any _).mono ?_; rintro e w3 ⟨rfl, hK3⟩
    replace HK := Lib.hid (HK.out.trans hK3 (fun _ _ h => h.elim))
    clear hK3 HW
    go_wp2
    go_ret
    exact ⟨by first | rfl | simp, (HK.out.below (Nat.le_refl _) (fun i e => by rcases e with rfl | rfl <;> omega))⟩
  · go_wp2_with fail
    go_loopw [11, 12] (fun v i wr => ∃ (j : Nat) (rs : List (Nat × Ve)), j ≤ n ∧ v = .int .u64 (j : Int) ∧ i = .int .i64 j ∧ rs.length = j ∧ Wx w.heap.size wr w1.heap.size b g (5 * j) j rs ∧ Kept (Own b g) w wr) (fun v i _ => n - (intOf i).toNat)
    case atStart => exact ⟨0, [], by omega, rfl, rfl, rfl, HW.out, HK.out⟩
    case round =>
      clear HW HK
      obtain ⟨j, rs, hj, rfl, rfl, hrl, hW, hK⟩ := hrel
      have HW := Lib.hid hW
      have HK := Lib.hid hK
      clear hW hK
      by_cases hlt : j < n
      · have hxr := Hx.out.kept HK.out (fun i hi e => by rcases e with rfl | rfl <;> omega)
        obtain ⟨kd, v, dl, fl, hxj⟩ : ∃ kd v dl fl, xs[j]? = some (kd, v, dl, fl) := ⟨_, _, _, _, List.getElem?_eq_getElem (by omega)⟩
        obtain ⟨ga, off, rfl, hga, hcell⟩ := hxr.at (by omega)
        have HXR := Lib.hid hxr
        have HXJ := Lib.hid hxj
        have hltr := HW.out.lt
        have hjn : (j : Int) < (n : Int) := by omega
        clear hcell hxj hxr
        go_wp2_with fail
        refine qtail 8 (fun w' => Kept (fun _ => False) wr w' ∧ Blk w' w1.heap.size 27 [.int .i64 1, .int .i64 2, .int .i64 100, .int .i64 100, .int .i64 200, .int .i64 4, .int .u64 1000, .int .i64 10, .int .i64 810, .int .i64 910] ∧ Rp w' (some ⟨ga, off, none⟩) c xs) (by kernel_rfl) (by kernel_rfl) ⟨(Kept.refl _ _).drew, HW.out.box, HXR.out.kept (Y := fun _ => False) (Kept.refl _ _).drew (fun _ _ h => h)⟩ ?_
        simp only [List.take_succ_cons, List.take_zero, List.drop_succ_cons, List.drop_zero]
        refine qstep (o := ⟨some 57, _, _, _, _, _⟩) (v := ?_) (by rfl) (fun wq hSw => ?_) ?_
        rotate_left
        · (have hb9 := hSw.2.1; have x0 := hb9.cell (i := 0) rfl; have x1 := hb9.cell (i := 1) rfl; have x2 := hb9.cell (i := 2) rfl; have x3 := hb9.cell (i := 3) rfl; have x4 := hb9.cell (i := 4) rfl; have x5 := hb9.cell (i := 5) rfl; have x6 := hb9.cell (i := 6) rfl; have x7 := hb9.cell (i := 7) rfl; have x8 := hb9.cell (i := 8) rfl; have x9 := hb9.cell (i := 9) rfl; clear hb9; go_simp; try with_reducible rfl)
        try simp only [Act.put, List.setIfInBounds_toArray, List.set_cons_zero, List.set_cons_succ]
        refine qstep (o := ⟨some 58, _, _, _, _, _⟩) (v := ?_) (by rfl) (fun wq hSw => ?_) ?_
        rotate_left
        · (go_simp; try with_reducible rfl)
        try simp only [Act.put, List.setIfInBounds_toArray, List.set_cons_zero, List.set_cons_succ]
        refine qstep (o := ⟨some 59, _, _, _, _, _⟩) (v := ?_) (by rfl) (fun wq hSw => ?_) ?_
        rotate_left
        · (go_simp; try with_reducible rfl)
        try simp only [Act.put, List.setIfInBounds_toArray, List.set_cons_zero, List.set_cons_succ]
        refine qstep (o := ⟨some 60, _, _, _, _, _⟩) (v := ?_) (by rfl) (fun wq hSw => ?_) ?_
        rotate_left
        · (go_simp; try with_reducible rfl)
        try simp only [Act.put, List.setIfInBounds_toArray, List.set_cons_zero, List.set_cons_succ]
        refine qstep (o := ⟨some 61, _, _, _, _, _⟩) (v := ?_) (by rfl) (fun wq hSw => ?_) ?_
        rotate_left
        · (go_simp; try with_reducible rfl)
        try simp only [Act.put, List.setIfInBounds_toArray, List.set_cons_zero, List.set_cons_succ]
        refine qstep (o := ⟨some 62, _, _, _, _, _⟩) (v := .pointer (some ⟨ga, off + j * 4, none⟩)) (by rfl) (fun wq hSw => ?_) ?_
        · (go_simp; try first | (with_reducible rfl) | (simp; omega) | (intros; omega) | simp [*])
        try simp only [Act.put, List.setIfInBounds_toArray, List.set_cons_zero, List.set_cons_succ]
        refine qstep (o := ⟨some 63, _, _, _, _, _⟩) (v := ?_) (by rfl) (fun wq hSw => ?_) ?_
        rotate_left
        · (obtain ⟨c0, c1, c2', c3⟩ := hSw.2.2.cells HXJ.out; go_simp; try with_reducible rfl)
        try simp only [Act.put, List.setIfInBounds_toArray, List.set_cons_zero, List.set_cons_succ]
        refine qcall (o := ⟨some 64, _, _, _, _, _⟩) (v := .agg #[.string ⟨#[]⟩, .string (wstr v dl), .bool dl]) (by rfl) (fun wq hSw => ?_) (fun wq hSw => Calls.mono (write_val kd fl v dl _) ?_) ?_
        · (go_simp; try with_reducible rfl)
        · rintro e w9 ⟨rfl, hk⟩; exact ⟨rfl, hSw.1.trans hk (fun _ _ h => h), hk.blk hSw.2.1 (fun h => h), hSw.2.2.kept hk (fun _ _ h => h)⟩
        try simp only [Act.put, List.setIfInBounds_toArray, List.set_cons_zero, List.set_cons_succ]
        refine wpQuiet_nil ?_
        intro wz hHeld
        obtain ⟨hK, -, -⟩ := hHeld
        have hs3 := hK.size
        replace HW := Lib.hid (HW.out.kept hK)
        replace HK := Lib.hid (HK.out.trans hK (fun _ _ h => h.elim))
        clear hK
        clear HXR
        go_wp2_with fail
        refine (install_any w.heap.size _ w1.heap.size b g (5 * j) j rs HW.out (by omega) (by omega) ⟨#[]⟩ (wstr v dl) dl (fun h => wstr_del v h)).mono ?_; rintro e w4 ⟨rfl, hW, hK⟩
        have hs4 := hK.size
        replace HW := Lib.hid hW
        replace HK := Lib.hid (HK.out.trans hK (fun _ _ h => h))
        clear hW hK
        have x0 := HW.out.box.cell (i := 0) rfl
        have x1 := HW.out.box.cell (i := 1) rfl
        have x2 := HW.out.box.cell (i := 2) rfl
        have x3 := HW.out.box.cell (i := 3) rfl
        have x4 := HW.out.box.cell (i := 4) rfl
        have x5 := HW.out.box.cell (i := 5) rfl
        have x6 := HW.out.box.cell (i := 6) rfl
        have x7 := HW.out.box.cell (i := 7) rfl
        have x8 := HW.out.box.cell (i := 8) rfl
        have x9 := HW.out.box.cell (i := 9) rfl
        go_wp2_with fail
        refine (newStamp_k (j + 1) (2 * (j + 1)) _).mono ?_; rintro e w5 ⟨q, rfl, hq, hQ, hK⟩
        clear x0 x1 x2 x3 x4 x5 x6 x7 x8 x9
        have hs5 := hK.size
        have HQ := Lib.hid hQ
        clear hQ
        replace HW := Lib.hid (HW.out.kept hK)
        replace HK := Lib.hid (HK.out.trans hK (fun _ _ h => h.elim))
        clear hK
        go_wp2_with fail
        refine (vstamp HW.out (2 * (j + 1)) HQ.out (by omega) (by omega)).mono ?_; rintro e w6 ⟨rfl, hW, hK⟩
        rw [show 5 * j + 4 + 1 = 5 * (j + 1) by omega] at hW
        clear HQ
        replace HW := Lib.hid hW
        replace HK := Lib.hid (one_step HK.out hK (by omega))
        clear hW hK
        go_wp2
        go_roundw
        case rel => exact ⟨j + 1, (j + 1, (2 * (j + 1), wstr v dl, dl)) :: rs, by omega, by go_num, by go_num, by simp [hrl], HW.out, HK.out⟩
        case measure => simp [intOf]; omega
      · obtain rfl : j = n := by omega
        rename World => wa
        obtain ⟨sv, okk, hsv⟩ : ∃ sv okk, val T (vrs rs) = (sv, okk) := ⟨_, _, rfl⟩
        have HSV := Lib.hid hsv
        obtain ⟨su, oku, hsu⟩ : ∃ su oku, val 1099511627776 (vrs rs) = (su, oku) := ⟨_, _, rfl⟩
        have HSU := Lib.hid hsu
        have hlta := HW.out.lt
        have hvl : (vrs rs).length = j := by rw [vrs_length]; exact hrl
        clear hsv hsu
        have x0 := HW.out.box.cell (i := 0) rfl
        have x1 := HW.out.box.cell (i := 1) rfl
        have x2 := HW.out.box.cell (i := 2) rfl
        have x3 := HW.out.box.cell (i := 3) rfl
        have x4 := HW.out.box.cell (i := 4) rfl
        have x5 := HW.out.box.cell (i := 5) rfl
        have x6 := HW.out.box.cell (i := 6) rfl
        have x7 := HW.out.box.cell (i := 7) rfl
        have x8 := HW.out.box.cell (i := 8) rfl
        have x9 := HW.out.box.cell (i := 9) rfl
        go_wp2_with fail
        refine (vpeek_far HW.out j hrl (by omega) (vrs rs) rfl).mono ?_; rintro e w7 ⟨A7, c7, rfl, hR7, hB7, hF7⟩
        clear x0 x1 x2 x3 x4 x5 x6 x7 x8 x9
        have HR7 := Lib.hid hR7
        have hK := keptNone hB7
        have hs7 := hK.size
        clear hR7 hB7
        replace HW := Lib.hid (HW.out.kept hK)
        replace HK := Lib.hid (HK.out.trans hK (fun _ _ h => h.elim))
        clear hK
        have HK7 := HK
        have hA7 : ∀ a, A7 = some a → ¬ Own b g a.block := fun a ha e => by have := hF7 a ha; rcases e with e | e <;> omega
        clear hF7
        have HKr := Lib.hid (Kept.refl (Own b g) w7)
        have hlt7 := HW.out.lt
        have x0 := HW.out.box.cell (i := 0) rfl
        have x1 := HW.out.box.cell (i := 1) rfl
        have x2 := HW.out.box.cell (i := 2) rfl
        have x3 := HW.out.box.cell (i := 3) rfl
        have x4 := HW.out.box.cell (i := 4) rfl
        have x5 := HW.out.box.cell (i := 5) rfl
        have x6 := HW.out.box.cell (i := 6) rfl
        have x7 := HW.out.box.cell (i := 7) rfl
        have x8 := HW.out.box.cell (i := 8) rfl
        have x9 := HW.out.box.cell (i := 9) rfl
        go_wp2_with fail
        refine (read_any w.heap.size _ w1.heap.size b g (5 * j) _ _ HW.out (by omega) (by omega) T sv okk HSV.out).mono ?_; rintro e w8 ⟨rfl, kw8, hkw8, hW, hK⟩
        clear x0 x1 x2 x3 x4 x5 x6 x7 x8 x9
        have hsw8 := hK.size
        replace HW := Lib.hid hW
        replace HK := Lib.hid (HK.out.trans hK (fun _ _ h => h))
        replace HKr := Lib.hid (HKr.out.trans hK (fun _ _ h => h))
        clear hW hK
        obtain ⟨l2, hm2, hd2⟩ := HW.out.db
        have HM2 := Lib.hid hm2
        have HD2 := Lib.hid hd2
        clear hm2 hd2
        have hlt8 := HW.out.lt
        go_wp2_with fail
        refine qtail 7 (fun w' => Kept (fun _ => False) w8 w' ∧ Blk w' w1.heap.size 27 [.int .i64 1, .int .i64 2, .int .i64 100, .int .i64 100, .int .i64 200, .int .i64 4, .int .u64 1000, .int .i64 10, .int .i64 810, .int .i64 910]) (by kernel_rfl) (by kernel_rfl) ⟨(Kept.refl _ _).drew, HW.out.box⟩ ?_
        simp only [List.take_succ_cons, List.take_zero, List.drop_succ_cons, List.drop_zero]
        refine qstep (o := ⟨some 86, _, _, _, _, _⟩) (v := ?_) (by rfl) (fun wq hSw => ?_) ?_
        rotate_left
        · (have hb9 := hSw.2; have x0 := hb9.cell (i := 0) rfl; have x1 := hb9.cell (i := 1) rfl; have x2 := hb9.cell (i := 2) rfl; have x3 := hb9.cell (i := 3) rfl; have x4 := hb9.cell (i := 4) rfl; have x5 := hb9.cell (i := 5) rfl; have x6 := hb9.cell (i := 6) rfl; have x7 := hb9.cell (i := 7) rfl; have x8 := hb9.cell (i := 8) rfl; have x9 := hb9.cell (i := 9) rfl; clear hb9; go_simp; try with_reducible rfl)
        try simp only [Act.put, List.setIfInBounds_toArray, List.set_cons_zero, List.set_cons_succ]
        refine qstep (o := ⟨some 87, _, _, _, _, _⟩) (v := ?_) (by rfl) (fun wq hSw => ?_) ?_
        rotate_left
        · (go_simp; try with_reducible rfl)
        try simp only [Act.put, List.setIfInBounds_toArray, List.set_cons_zero, List.set_cons_succ]
        refine qstep (o := ⟨some 88, _, _, _, _, _⟩) (v := ?_) (by rfl) (fun wq hSw => ?_) ?_
        rotate_left
        · (go_simp; try with_reducible rfl)
        try simp only [Act.put, List.setIfInBounds_toArray, List.set_cons_zero, List.set_cons_succ]
        refine qstep (o := ⟨some 89, _, _, _, _, _⟩) (v := ?_) (by rfl) (fun wq hSw => ?_) ?_
        rotate_left
        · (go_simp; try with_reducible rfl)
        try simp only [Act.put, List.setIfInBounds_toArray, List.set_cons_zero, List.set_cons_succ]
        refine qstep (o := ⟨some 90, _, _, _, _, _⟩) (v := ?_) (by rfl) (fun wq hSw => ?_) ?_
        rotate_left
        · (go_simp; try with_reducible rfl)
        try simp only [Act.put, List.setIfInBounds_toArray, List.set_cons_zero, List.set_cons_succ]
        refine qstep (o := ⟨some 91, _, _, _, _, _⟩) (v := ?_) (by rfl) (fun wq hSw => ?_) ?_
        rotate_left
        · (go_simp; try with_reducible rfl)
        try simp only [Act.put, List.setIfInBounds_toArray, List.set_cons_zero, List.set_cons_succ]
        refine qcall (o := ⟨some 92, _, _, _, _, _⟩) (v := .agg #[.string ⟨#[]⟩, .string (wstr value del), .bool del]) (by rfl) (fun wq hSw => ?_) (fun wq hSw => Calls.mono (write_val 0 0 value del _) ?_) ?_
        · (go_simp; try with_reducible rfl)
        · rintro e w9 ⟨rfl, hk⟩; exact ⟨rfl, hSw.1.trans hk (fun _ _ h => h), hk.blk hSw.2 (fun h => h)⟩
        try simp only [Act.put, List.setIfInBounds_toArray, List.set_cons_zero, List.set_cons_succ]
        refine wpQuiet_nil ?_
        intro wz hHeld
        obtain ⟨hK, -⟩ := hHeld
        have hs9 := hK.size
        replace HM2 := Lib.hid (HM2.out.kept hK (fun h => h) (fun h => h))
        replace HW := Lib.hid (HW.out.kept hK)
        replace HK := Lib.hid (HK.out.trans hK (fun _ _ h => h.elim))
        replace HKr := Lib.hid (HKr.out.trans hK (fun _ _ h => h.elim))
        clear hK
        go_wp2_with fail
        refine (in_new 1 2 100 100 200 4 1000 10 810 910 1510 j rs l2 HD2.out ⟨#[]⟩ (wstr value del) del _).mono ?_; rintro e w10 ⟨q, rfl, hq, hI, hqw, hK⟩
        have HI := Lib.hid hI
        replace HM2 := Lib.hid (HM2.out.kept hK (fun h => h) (fun h => h))
        have hs10 := hK.size
        clear hI
        replace HW := Lib.hid (HW.out.kept hK)
        replace HK := Lib.hid (HK.out.trans hK (fun _ _ h => h.elim))
        replace HKr := Lib.hid (HKr.out.trans hK (fun _ _ h => h.elim))
        clear hK
        go_wp2_with fail
        go_loopw [18] (fun i wq => ∃ (ph k : Nat) (l3 : List Cel), i = .int .i64 ph ∧ ph < 4 ∧ k ≤ 1000 + 600 * ph ∧ KIn wq q rs j l3 (wstr value del, del) ph ∧ Mem wq b g l3 k ∧ Blk wq w1.heap.size 27 [.int .i64 1, .int .i64 2, .int .i64 100, .int .i64 100, .int .i64 200, .int .i64 4, .int .u64 1000, .int .i64 10, .int .i64 810, .int .i64 910] ∧ Kept (Own b g) w7 wq) (fun i _ => 500 - (intOf i).toNat)
        case atStart => exact ⟨0, kw8, l2, rfl, by omega, by omega, HI.out, HM2.out, HW.out.box, HKr.out⟩
        case round =>
          rename World => wq
          have HWlo := Lib.hid HW.out.lo
          have HWne := Lib.hid HW.out.ne
          clear HI HM2 HW
          obtain ⟨ph, k, l3, rfl, hph, hk, hI, hM, hX, hKq⟩ := hrel
          have HI := Lib.hid hI
          have HM := Lib.hid hM
          have HX := Lib.hid hX
          have HKq := Lib.hid hKq
          have hp5 : (ph : Int) < 50 := by omega
          have hsq := hKq.size
          clear hI hM hX hKq
          go_wp2_with fail
          refine (vinst HM.out HI.out hph (by omega) (by omega) (by omega)).mono ?_; rintro e w11 ⟨l4, rfl, hI4, hM4, hK4⟩
          have HI4 := Lib.hid hI4
          have HM4 := Lib.hid hM4
          have HX4 := Lib.hid (hK4.blk HX.out (fun e => by rcases e with e | e | e <;> omega))
          have HK4 := Lib.hid (one_step HKq.out hK4 (by omega))
          clear hI4 hM4 hK4 HI HM HX HKq
          by_cases hz : ph + 1 = 4
          · have hz2 : (ph + 1 == 4) = true := by simp; omega
            rw [hz2]
            obtain rfl : ph = 3 := by omega
            have hW : Wx w.heap.size w11 w1.heap.size b g (k + 1) (j + 1) ((j + 1, (0, wstr value del, del)) :: rs) := by
              obtain ⟨old, M, -, -, -, -, -, -, h4, -⟩ := HI4.out
              refine ⟨⟨l4, HM4.out, ?_⟩, HX4.out, HWlo.out, HWne.out⟩
              have h5 := h4 rfl
              cases hdl : del
              · rw [hdl] at h5; exact h5
              · rw [hdl] at h5; rw [wstr_del value rfl]; exact h5
            have HW := Lib.hid hW
            have HIq := HI4
            have hs11 := HK4.out.size
            have HK := Lib.hid (HK7.out.trans HK4.out (fun _ _ h => h))
            have HKr := HK4
            clear hW HM4 HX4 HK4
            have x0 := HW.out.box.cell (i := 0) rfl
            have x1 := HW.out.box.cell (i := 1) rfl
            have x2 := HW.out.box.cell (i := 2) rfl
            have x3 := HW.out.box.cell (i := 3) rfl
            have x4 := HW.out.box.cell (i := 4) rfl
            have x5 := HW.out.box.cell (i := 5) rfl
            have x6 := HW.out.box.cell (i := 6) rfl
            have x7 := HW.out.box.cell (i := 7) rfl
            have x8 := HW.out.box.cell (i := 8) rfl
            have x9 := HW.out.box.cell (i := 9) rfl
            go_wp2_with fail
            refine (read_any w.heap.size _ w1.heap.size b g (k + 1) _ _ HW.out (by simp only [List.length_cons]; omega) (by omega) 1099511627776 su oku (by rw [vrs_cons, val_pend]; exact HSU.out)).mono ?_; rintro e w12 ⟨rfl, kw12, hkw12, hW, hK⟩
            clear x0 x1 x2 x3 x4 x5 x6 x7 x8 x9
            have hsw12 := hK.size
            replace HIq := Lib.hid (HIq.out.kept hK (fun e => by rcases e with e | e <;> omega))
            replace HW := Lib.hid hW
            replace HK := Lib.hid (HK.out.trans hK (fun _ _ h => h))
            replace HKr := Lib.hid (HKr.out.trans hK (fun _ _ h => h))
            clear hW hK
            have HRn := Lib.hid (HR7.out.kept HKr.out hA7)
            go_wp2_with fail
            refine (refValue_any A7 c7 (vrs rs) 1099511627776 _ j hvl (by omega) HRn.out su oku HSU.out).mono ?_; rintro e w13 ⟨rfl, hB13⟩
            have hK := keptNone hB13
            have hs13 := hK.size
            replace HIq := Lib.hid (HIq.out.kept hK (fun h => h))
            clear hB13 HRn
            replace HW := Lib.hid (HW.out.kept hK)
            replace HK := Lib.hid (HK.out.trans hK (fun _ _ h => h.elim))
            replace HKr := Lib.hid (HKr.out.trans hK (fun _ _ h => h.elim))
            clear hK
            have hlt13 := HW.out.lt
            go_wp2_with fail
            refine qtail 3 (fun w' => Kept (fun _ => False) w13 w' ∧ Blk w' w1.heap.size 27 [.int .i64 1, .int .i64 2, .int .i64 100, .int .i64 100, .int .i64 200, .int .i64 4, .int .u64 1000, .int .i64 10, .int .i64 810, .int .i64 910] ∧ KIn w' q rs j l4 (wstr value del, del) 4) (by kernel_rfl) (by kernel_rfl) ⟨(Kept.refl _ _).drew, HW.out.box, HIq.out.kept (Y := fun _ => False) (Kept.refl _ _).drew (fun h => h)⟩ ?_
            simp only [List.take_succ_cons, List.take_zero, List.drop_succ_cons, List.drop_zero]
            refine qstep (o := ⟨some 130, _, _, _, _, _⟩) (v := ?_) (by rfl) (fun wq hSw => ?_) ?_
            rotate_left
            · (have hb9 := hSw.2.1; have x0 := hb9.cell (i := 0) rfl; have x1 := hb9.cell (i := 1) rfl; have x2 := hb9.cell (i := 2) rfl; have x3 := hb9.cell (i := 3) rfl; have x4 := hb9.cell (i := 4) rfl; have x5 := hb9.cell (i := 5) rfl; have x6 := hb9.cell (i := 6) rfl; have x7 := hb9.cell (i := 7) rfl; have x8 := hb9.cell (i := 8) rfl; have x9 := hb9.cell (i := 9) rfl; clear hb9; go_simp; try with_reducible rfl)
            try simp only [Act.put, List.setIfInBounds_toArray, List.set_cons_zero, List.set_cons_succ]
            refine qstep (o := ⟨some 131, _, _, _, _, _⟩) (v := ?_) (by rfl) (fun wq hSw => ?_) ?_
            rotate_left
            · (go_simp; try with_reducible rfl)
            try simp only [Act.put, List.setIfInBounds_toArray, List.set_cons_zero, List.set_cons_succ]
            refine qcall (o := ⟨some 132, _, _, _, _, _⟩) (v := .int .u64 ((num rs 0 : Nat) : Int)) (by rfl) (fun wq hSw => ?_) (fun wq hSw => Calls.mono (in_old 1 2 100 100 200 4 1000 10 810 910 q 1510 j _ rs l4 (wstr value del, del) hSw.2.2) ?_) ?_
            · (go_simp; try with_reducible rfl)
            · rintro e w9 ⟨rfl, rfl⟩; exact ⟨rfl, hSw⟩
            try simp only [Act.put, List.setIfInBounds_toArray, List.set_cons_zero, List.set_cons_succ]
            refine wpQuiet_nil ?_
            intro wz hHeld
            obtain ⟨hK, -, -⟩ := hHeld
            have hs14 := hK.size
            clear HIq HI4
            replace HW := Lib.hid (HW.out.kept hK)
            replace HK := Lib.hid (HK.out.trans hK (fun _ _ h => h.elim))
            replace HKr := Lib.hid (HKr.out.trans hK (fun _ _ h => h.elim))
            clear hK
            go_wp2_with fail
            refine (newRestore_k (num rs 0) _).mono ?_; rintro e w15 ⟨q2, rfl, hq2, hQ, hK⟩
            have hs15 := hK.size
            have HQ := Lib.hid hQ
            clear hQ
            replace HW := Lib.hid (HW.out.kept hK)
            replace HK := Lib.hid (HK.out.trans hK (fun _ _ h => h.elim))
            replace HKr := Lib.hid (HKr.out.trans hK (fun _ _ h => h.elim))
            clear hK
            go_wp2_with fail
            refine (vrestore HW.out HQ.out (by omega) (by omega)).mono ?_; rintro e w16 ⟨rfl, hW, hK⟩
            have hs16 := hK.size
            clear HQ
            replace HW := Lib.hid hW
            replace HK := Lib.hid (one_step HK.out hK (by omega))
            replace HKr := Lib.hid (one_step HKr.out hK (by omega))
            clear hW hK
            have x0 := HW.out.box.cell (i := 0) rfl
            have x1 := HW.out.box.cell (i := 1) rfl
            have x2 := HW.out.box.cell (i := 2) rfl
            have x3 := HW.out.box.cell (i := 3) rfl
            have x4 := HW.out.box.cell (i := 4) rfl
            have x5 := HW.out.box.cell (i := 5) rfl
            have x6 := HW.out.box.cell (i := 6) rfl
            have x7 := HW.out.box.cell (i := 7) rfl
            have x8 := HW.out.box.cell (i := 8) rfl
            have x9 := HW.out.box.cell (i := 9) rfl
            go_wp2_with fail
            refine (read_any w.heap.size _ w1.heap.size b g (kw12 + 1) _ _ HW.out (by omega) (by omega) T sv okk HSV.out).mono ?_; rintro e w17 ⟨rfl, kw17, hkw17, hW, hK⟩
            clear x0 x1 x2 x3 x4 x5 x6 x7 x8 x9
            have hsw17 := hK.size
            replace HW := Lib.hid hW
            replace HK := Lib.hid (HK.out.trans hK (fun _ _ h => h))
            replace HKr := Lib.hid (HKr.out.trans hK (fun _ _ h => h))
            clear hW hK
            have x0 := HW.out.box.cell (i := 0) rfl
            have x1 := HW.out.box.cell (i := 1) rfl
            have x2 := HW.out.box.cell (i := 2) rfl
            have x3 := HW.out.box.cell (i := 3) rfl
            have x4 := HW.out.box.cell (i := 4) rfl
            have x5 := HW.out.box.cell (i := 5) rfl
            have x6 := HW.out.box.cell (i := 6) rfl
            have x7 := HW.out.box.cell (i := 7) rfl
            have x8 := HW.out.box.cell (i := 8) rfl
            have x9 := HW.out.box.cell (i := 9) rfl
            go_wp2_with fail
            refine (vpeek HW.out j hrl (by omega) (vrs rs) rfl).mono ?_; rintro e w18 ⟨A18, c18, rfl, hR18, hB18⟩
            clear x0 x1 x2 x3 x4 x5 x6 x7 x8 x9
            have HR18 := Lib.hid hR18
            have hK := keptNone hB18
            clear hR18 hB18
            replace HW := Lib.hid (HW.out.kept hK)
            replace HK := Lib.hid (HK.out.trans hK (fun _ _ h => h.elim))
            replace HKr := Lib.hid (HKr.out.trans hK (fun _ _ h => h.elim))
            clear hK
            have HRn := Lib.hid (HR7.out.kept HKr.out hA7)
            go_wp2_with fail
            refine (same_any A18 A7 c18 c7 (vrs rs) _ j hvl (by omega) HR18.out HRn.out).mono ?_; rintro e w19 ⟨rfl, hB19⟩
            have hK := keptNone hB19
            clear hB19 HRn HR18
            replace HW := Lib.hid (HW.out.kept hK)
            replace HK := Lib.hid (HK.out.trans hK (fun _ _ h => h.elim))
            clear hK
            go_wp2
            go_ret
            exact ⟨by first | rfl | simp, (HK.out.below (Nat.le_refl _) (fun i e => by rcases e with rfl | rfl <;> omega))⟩
          · have hz2 : (ph + 1 == 4) = false := by simp; omega
            rw [hz2]
            have hlt4 : ph + 1 < 4 := by omega
            have hD4 : KDb l4 rs j := by obtain ⟨old, M, -, -, -, h4, -⟩ := HI4.out; exact h4 hlt4
            have HD4 := Lib.hid hD4
            clear hD4
            have x0 := HX4.out.cell (i := 0) rfl
            have x1 := HX4.out.cell (i := 1) rfl
            have x2 := HX4.out.cell (i := 2) rfl
            have x3 := HX4.out.cell (i := 3) rfl
            have x4 := HX4.out.cell (i := 4) rfl
            have x5 := HX4.out.cell (i := 5) rfl
            have x6 := HX4.out.cell (i := 6) rfl
            have x7 := HX4.out.cell (i := 7) rfl
            have x8 := HX4.out.cell (i := 8) rfl
            have x9 := HX4.out.cell (i := 9) rfl
            go_wp2_with fail
            refine (readl_any _ b g (k + 1) j l4 rs HM4.out HD4.out (by omega) (by omega) T sv okk HSV.out).mono ?_; rintro e w12 ⟨rfl, k12, hk12, hM12, hK12⟩
            clear x0 x1 x2 x3 x4 x5 x6 x7 x8 x9
            have HM12 := Lib.hid hM12
            have HI12 := Lib.hid (HI4.out.kept hK12 (fun e => by rcases e with e | e <;> omega))
            have HX12 := Lib.hid (hK12.blk HX4.out (fun e => by rcases e with e | e <;> omega))
            have HK12 := Lib.hid (HK4.out.trans hK12 (fun _ _ h => h))
            clear hM12 hK12 HI4 HM4 HX4 HK4
            go_wp2
            go_roundw
            case rel => exact ⟨ph + 1, k12, l4, by go_num, by omega, by omega, HI12.out, HM12.out, HX12.out, HK12.out⟩
            case measure => simp [intOf]; omega
end Go.Proofs.Ytlooekocfcnbiaa
