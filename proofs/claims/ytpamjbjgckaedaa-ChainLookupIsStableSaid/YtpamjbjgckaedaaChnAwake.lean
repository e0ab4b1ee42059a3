/-
  The sanity check of layer 10's statements ('awake') returns true; nothing that was there is written. Condition: none.
-/
import Derived.Test.YtpamjbjgckaedaaChnLawB
namespace Go.Proofs.Ytpamjbjgckaedaa
open Go.RowKit Go.Deep Plain
set_option linter.unusedVariables false

theorem Kept.drop {S : Nat → Prop} {w w' : World} (h : Kept S w w') (hS : ∀ i, i < w.heap.size → ¬ S i) : Kept (fun _ => False) w w' := ⟨h.os, h.tape, h.output, h.size, fun i hi _ => h.block i hi (hS i hi)⟩
set_option maxRecDepth 100000 in
set_option maxHeartbeats 4000000 in
theorem awake_any (w : World) :
    Calls Try.prog 9 #[] w fun e w' => e = .returned (.bool true) ∧ Kept (fun _ => False) w w' := by
  go_enter Try.func9, Try.ntmps9
  go_wp2_with fail
  refine (kitConfig_any 1 _).mono ?_; rintro e w0 ⟨rfl, hK0⟩
  have hs0 := hK0.size
  have HK0 := Lib.hid hK0
  clear hK0
  go_wp2_with fail
  refine (kitMem _).mono ?_; rintro e w1 ⟨b, g, l, rfl, hM1, hD1, hb1, hg1, hK1⟩
  have HK1 := Lib.hid ((HK0.out.mono (T := Own b g) (fun _ h => h.elim)).trans hK1 (fun _ _ h => h.elim))
  have HM1 := Lib.hid (hM1.alloc (.cells #[.int .i64 1, .int .i64 2, .int .i64 100, .int .i64 100, .int .i64 200, .int .i64 4, .int .u64 1000, .int .i64 10, .int .i64 810, .int .i64 910] 27))
  have HD1 := Lib.hid hD1
  have HW1 := Lib.hid (Wx.start (B := w.heap.size) hM1 hD1 (by omega) (by omega))
  have HKA := Lib.hid (HK1.out.alloc (.cells #[.int .i64 1, .int .i64 2, .int .i64 100, .int .i64 100, .int .i64 200, .int .i64 4, .int .u64 1000, .int .i64 10, .int .i64 810, .int .i64 910] 27))
  have hs1 := hK1.size
  have hbl := hM1.obj.lt
  have hgl := hM1.row.lt
  have hsz : (w1.alloc (.cells #[.int .i64 1, .int .i64 2, .int .i64 100, .int .i64 100, .int .i64 200, .int .i64 4, .int .u64 1000, .int .i64 10, .int .i64 810, .int .i64 910] 27)).heap.size = w1.heap.size + 1 := nblk_alloc _ _
  have hbox := HW1.out.box
  have x0 := hbox.cell (i := 0) rfl
  have x1 := hbox.cell (i := 1) rfl
  have x2 := hbox.cell (i := 2) rfl
  have x3 := hbox.cell (i := 3) rfl
  have x4 := hbox.cell (i := 4) rfl
  have x5 := hbox.cell (i := 5) rfl
  have x6 := hbox.cell (i := 6) rfl
  have x7 := hbox.cell (i := 7) rfl
  have x8 := hbox.cell (i := 8) rfl
  have x9 := hbox.cell (i := 9) rfl
  have HX := Lib.hid hbox
  clear hM1 hD1 hK1 HK0 HK1 hbox
  go_wp2_with fail
  refine (in_new 1 2 100 100 200 4 1000 10 810 910 1510 0 [] l HD1.out ⟨#[107]⟩ ⟨#[118]⟩ false _).mono ?_; rintro e w2 ⟨q, rfl, hq1, hI2, hq2, hK2⟩
  clear x0 x1 x2 x3 x4 x5 x6 x7 x8 x9
  have HM2 := Lib.hid (HM1.out.kept hK2 (fun h => h) (fun h => h))
  have HI2 := Lib.hid hI2
  have HX2 := Lib.hid (hK2.blk HX.out (fun h => h))
  have HK2 := Lib.hid (HKA.out.trans hK2 (fun _ _ h => h.elim))
  have hqn : q ≠ b ∧ q ≠ g ∧ w1.heap.size ≠ q := by omega
  have hqw : w.heap.size ≤ q := by omega
  have hsb : w1.heap.size ≠ b ∧ w1.heap.size ≠ g := by omega
  clear hI2 hK2 HM1 HX HKA HW1 HD1
  go_wp2_with fail
  go_loopw [4] (fun i wr => ∃ (j ph k : Nat) (l' : List Cel), i = .int .i64 j ∧ j ≤ 9 ∧ ph = min j 4 ∧ k = ph ∧ KIn wr q [] 0 l' (⟨#[118]⟩, false) ph ∧ Mem wr b g l' k ∧ Blk wr w1.heap.size 27 [.int .i64 1, .int .i64 2, .int .i64 100, .int .i64 100, .int .i64 200, .int .i64 4, .int .u64 1000, .int .i64 10, .int .i64 810, .int .i64 910] ∧ Kept (Own b g) w wr) (fun i _ => 20 - (intOf i).toNat)
  case atStart => exact ⟨0, 0, 0, l, rfl, by omega, by omega, rfl, HI2.out, HM2.out, HX2.out, HK2.out⟩
  case round =>
    obtain ⟨j, ph, k, l', rfl, hj, hph, hk, hI, hM, hX, hK⟩ := hrel
    have HM := Lib.hid hM
    have HI := Lib.hid hI
    have HX := Lib.hid hX
    have HK := Lib.hid hK
    clear hM hI hX hK HM2 HI2 HX2 HK2
    by_cases hj9 : j < 9
    · go_wp2_with fail
      by_cases hp4 : ph < 4
      · refine (vinst HM.out HI.out hp4 (by omega) ⟨hqn.1, hqn.2.1⟩ (by omega)).mono ?_; rintro e w3 ⟨l3, rfl, hI3, hM3, hK3⟩
        have HM3 := Lib.hid hM3
        have HI3 := Lib.hid hI3
        have HX3 := Lib.hid (hK3.blk HX.out (by unfold Own3; omega))
        have HK3 := Lib.hid (one_step HK.out hK3 hqw)
        clear hM3 hI3 hK3 HM HI HX HK
        go_wp2
        go_roundw
        case rel => exact ⟨j + 1, ph + 1, k + 1, l3, by go_num, by omega, by omega, by omega, HI3.out, HM3.out, HX3.out, HK3.out⟩
        case measure => simp [intOf]; omega
      · obtain rfl : ph = 4 := by omega
        have hj4 : 4 ≤ j := by omega
        subst hk
        clear hph
        refine (in_done 1 2 100 100 200 4 1000 10 810 910 q b 1510 0 _ [] l' _ HI.out).mono ?_; rintro e w3 ⟨rfl, rfl⟩
        go_wp2
        go_roundw
        case rel => exact ⟨j + 1, 4, 4, l', by go_num, by omega, by omega, by omega, HI.out, HM.out, HX.out, HK.out⟩
        case measure => simp [intOf]; omega
    · obtain rfl : ph = 4 := by omega
      subst hk
      clear hph
      have hw : Wx w.heap.size wr w1.heap.size b g 4 1 [(1, (0, ⟨#[118]⟩, false))] := by
        obtain ⟨old, M, -, -, -, -, -, -, h4, -⟩ := HI.out
        exact ⟨⟨l', HM.out, h4 rfl⟩, HX.out, ⟨by omega, by omega, by omega⟩, hsb⟩
      have HW := Lib.hid hw
      clear hw HM HI
      have x0 := HX.out.cell (i := 0) rfl
      have x1 := HX.out.cell (i := 1) rfl
      have x2 := HX.out.cell (i := 2) rfl
      have x3 := HX.out.cell (i := 3) rfl
      have x4 := HX.out.cell (i := 4) rfl
      have x5 := HX.out.cell (i := 5) rfl
      have x6 := HX.out.cell (i := 6) rfl
      have x7 := HX.out.cell (i := 7) rfl
      have x8 := HX.out.cell (i := 8) rfl
      have x9 := HX.out.cell (i := 9) rfl
      go_wp2_with fail
      refine (read_any w.heap.size _ w1.heap.size b g 4 1 _ HW.out (by simp) (by omega) 9 ⟨#[]⟩ false (by rfl)).mono ?_; rintro e w4 ⟨rfl, k4, hk4, hW4, hK4⟩
      clear x0 x1 x2 x3 x4 x5 x6 x7 x8 x9
      have HW4 := Lib.hid hW4
      have hX4 := hW4.box
      have HK4 := Lib.hid (HK.out.trans hK4 (fun _ _ h => h))
      have x0 := hX4.cell (i := 0) rfl
      have x1 := hX4.cell (i := 1) rfl
      have x2 := hX4.cell (i := 2) rfl
      have x3 := hX4.cell (i := 3) rfl
      have x4 := hX4.cell (i := 4) rfl
      have x5 := hX4.cell (i := 5) rfl
      have x6 := hX4.cell (i := 6) rfl
      have x7 := hX4.cell (i := 7) rfl
      have x8 := hX4.cell (i := 8) rfl
      have x9 := hX4.cell (i := 9) rfl
      have hs4 := HK.out.size
      have hs5 := hK4.size
      clear hW4 hK4 hX4 HK HW HX
      go_wp2_with fail
      refine (newStamp_k 1 3 _).mono ?_; rintro e w5 ⟨q2, rfl, hq5, hB5, hK5⟩
      clear x0 x1 x2 x3 x4 x5 x6 x7 x8 x9
      have HB5 := Lib.hid hB5
      have hl4 := HW4.out.lt
      have HW5 := Lib.hid (HW4.out.kept hK5)
      have HK5 := Lib.hid (HK4.out.trans hK5 (fun _ _ h => h.elim))
      clear hB5 hK5 HW4 HK4
      go_wp2_with fail
      refine (vstamp HW5.out 3 HB5.out (by omega) (by omega)).mono ?_; rintro e w6 ⟨rfl, hW6, hK6⟩
      have HW6 := Lib.hid hW6
      have HK6 := Lib.hid (one_step HK5.out hK6 (by omega))
      have hX6 := hW6.box
      have x0 := hX6.cell (i := 0) rfl
      have x1 := hX6.cell (i := 1) rfl
      have x2 := hX6.cell (i := 2) rfl
      have x3 := hX6.cell (i := 3) rfl
      have x4 := hX6.cell (i := 4) rfl
      have x5 := hX6.cell (i := 5) rfl
      have x6 := hX6.cell (i := 6) rfl
      have x7 := hX6.cell (i := 7) rfl
      have x8 := hX6.cell (i := 8) rfl
      have x9 := hX6.cell (i := 9) rfl
      clear hW6 hK6 hX6 HW5 HK5 HB5
      go_wp2_with fail
      refine (read_any w.heap.size _ w1.heap.size b g (k4 + 1) 1 _ HW6.out (by simp) (by omega) 3 ⟨#[118]⟩ true (by rfl)).mono ?_; rintro e w7 ⟨rfl, k7, hk7, hW7, hK7⟩
      clear x0 x1 x2 x3 x4 x5 x6 x7 x8 x9
      have HW7 := Lib.hid hW7
      have HK7 := Lib.hid (HK6.out.trans hK7 (fun _ _ h => h))
      have hX7 := hW7.box
      have x0 := hX7.cell (i := 0) rfl
      have x1 := hX7.cell (i := 1) rfl
      have x2 := hX7.cell (i := 2) rfl
      have x3 := hX7.cell (i := 3) rfl
      have x4 := hX7.cell (i := 4) rfl
      have x5 := hX7.cell (i := 5) rfl
      have x6 := hX7.cell (i := 6) rfl
      have x7 := hX7.cell (i := 7) rfl
      have x8 := hX7.cell (i := 8) rfl
      have x9 := hX7.cell (i := 9) rfl
      clear hW7 hK7 hX7 HW6 HK6
      go_wp2_with fail
      refine (read_any w.heap.size _ w1.heap.size b g k7 1 _ HW7.out (by simp) (by omega) 2 ⟨#[]⟩ false (by rfl)).mono ?_; rintro e w8 ⟨rfl, k8, hk8, hW8, hK8⟩
      clear x0 x1 x2 x3 x4 x5 x6 x7 x8 x9
      have HK8 := Lib.hid (HK7.out.trans hK8 (fun _ _ h => h))
      clear hW8 hK8 HW7 HK7
      go_wp2
      go_ret
      refine ⟨by first | rfl | simp, HK8.out.drop (fun i hi e => by rcases e with rfl | rfl <;> omega)⟩

end Go.Proofs.Ytpamjbjgckaedaa
