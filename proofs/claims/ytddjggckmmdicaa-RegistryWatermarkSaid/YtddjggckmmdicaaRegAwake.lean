/-
  The sanity check of layer 18's statements ('awake') returns true; nothing that was there is written. Condition: none.
-/
import Derived.Test.YtddjggckmmdicaaRegCel
namespace Go.Proofs.Ytddjggckmmdicaa
open Go.RowKit Go.Deep
set_option linter.unusedVariables false

/-- The cells of the example: the first snapshot is open at 3, the last one at 5. -/
def exX : Nat → Nat := upd (upd (fun _ => 0) 0 4) 3 6
theorem exX_small (k : Nat) : exX k < 18446744073709551616 := by show (if k = 3 then 6 else if k = 0 then 4 else 0) < _; split <;> (try split) <;> omega
theorem exX_raw : raw exX 4 = [3, 5] := by decide
theorem exX_low : lowN 5 exX 4 = 3 := by decide
theorem exX_asc : Asc [3, 5] := fun i x y h1 h2 => by
  match i with
  | 0 => simp at h1 h2; omega
  | 1 => simp at h2
  | i + 2 => simp at h1

set_option maxHeartbeats 2000000 in
theorem awake_any (w : World) :
    Calls Try.prog 7 #[] w fun e w' => e = .returned (.bool true) ∧ Kept (fun _ => False) w w' := by
  go_enter Try.func7, Try.ntmps7
  go_wp2_with fail
  refine (kitConfig_any 2 _).mono ?_; rintro e w1 ⟨rfl, hK1⟩
  go_wp2_with fail
  refine (kitMem 2 2 (lim_of (by omega) (by omega) (by omega) (by omega)) _).mono ?_
  intro e w2 hok
  obtain ⟨b, g, l, fa, fb, fd, rfl, hM2, hS2, hb2, hg2, hK2⟩ := hok
  have hz := hK1.size
  have HM2 := Lib.hid hM2
  have HS2 := Lib.hid hS2
  have HB2 := Lib.hid (show w.heap.size ≤ b ∧ w.heap.size ≤ g by omega)
  have HK2 := Lib.hid (hK1.trans hK2 (fun _ _ h => h))
  clear hM2 hS2 hb2 hg2 hz hK1 hK2
  go_wp2_with fail
  have HL := Lib.hid (Blk.new w2 [.int .i64 ((2 : Nat) : Int), .int .i64 ((2 : Nat) : Int), .int .i64 100, .int .i64 100, .int .i64 200, .int .i64 4, .int .u64 1000, .int .i64 fa, .int .i64 fb, .int .i64 fd] 29)
  have HM3 := Lib.hid (HM2.out.alloc (.cells #[.int .i64 ((2 : Nat) : Int), .int .i64 ((2 : Nat) : Int), .int .i64 100, .int .i64 100, .int .i64 200, .int .i64 4, .int .u64 1000, .int .i64 fa, .int .i64 fb, .int .i64 fd] 29))
  have HK3 := Lib.hid (HK2.out.alloc (.cells #[.int .i64 ((2 : Nat) : Int), .int .i64 ((2 : Nat) : Int), .int .i64 100, .int .i64 100, .int .i64 200, .int .i64 4, .int .u64 1000, .int .i64 fa, .int .i64 fb, .int .i64 fd] 29))
  have HBS : Hid (b < w2.heap.size ∧ g < w2.heap.size) := Lib.hid ⟨HM2.out.obj.lt, HM2.out.row.lt⟩
  have hws := HK2.out.size
  clear HM2 HK2
  generalize w2.alloc (.cells #[.int .i64 ((2 : Nat) : Int), .int .i64 ((2 : Nat) : Int), .int .i64 100, .int .i64 100, .int .i64 200, .int .i64 4, .int .u64 1000, .int .i64 fa, .int .i64 fb, .int .i64 fd] 29) = W3 at *
  generalize w2.heap.size = s at *
  refine (poke_any b g l 0 2 ((5 : Nat) : Int) 0 ⟨#[]⟩ _ HM3.out).mono ?_; rintro e w4 ⟨rfl, hM4, hK4⟩
  have hS4 := HS2.out.pub2 5
  generalize putAt l 2 (((5 : Nat) : Int), ⟨#[]⟩, 0) = l4 at *
  have HM4 := Lib.hid hM4
  have HS4 := Lib.hid hS4
  have HK4 := Lib.hid hK4
  clear hM4 hS4 hK4 HM3 HS2
  go_wp2_with fail
  refine (poke_any b g l4 0 ((8 + 0 : Nat) : Int) ((4 : Nat) : Int) 0 ⟨#[]⟩ _ HM4.out).mono ?_; rintro e w5 ⟨rfl, hM5, hK5⟩
  have hS5 := HS4.out.put (k := 0) (by omega) 4
  generalize putAt l4 ((8 + 0 : Nat) : Int) (((4 : Nat) : Int), ⟨#[]⟩, 0) = l5 at *
  have HM5 := Lib.hid hM5
  have HS5 := Lib.hid hS5
  have HK5 := Lib.hid (HK4.out.trans hK5 (fun _ _ h => h))
  clear hM5 hS5 hK5 HM4 HS4 HK4
  go_wp2_with fail
  refine (poke_any b g l5 0 ((8 + 3 : Nat) : Int) ((6 : Nat) : Int) 0 ⟨#[]⟩ _ HM5.out).mono ?_; rintro e w6 ⟨rfl, hM6, hK6⟩
  have hS6 := HS5.out.put (k := 3) (by omega) 6
  generalize putAt l5 ((8 + 3 : Nat) : Int) (((6 : Nat) : Int), ⟨#[]⟩, 0) = l6 at *
  have hk6 := HK5.out.trans hK6 (fun _ _ h => h)
  have HM6 := Lib.hid hM6
  have HS6 : Hid (Sn l6 4 5 exX) := Lib.hid hS6
  have HL6 := Lib.hid (hk6.blk HL.out (by have := HBS.out; unfold Own; omega))
  have HK6 := Lib.hid (HK3.out.trans hk6 (T := Own b g) (fun i hi h => by have := HB2.out; unfold Own at h; omega))
  clear hM6 hS6 hK6 hk6 HM5 HS5 HK5 HL HK3
  have hL := HL6.out
  have x0 := hL.cell (i := 0) rfl
  have x1 := hL.cell (i := 1) rfl
  have x2 := hL.cell (i := 2) rfl
  have x3 := hL.cell (i := 3) rfl
  have x4 := hL.cell (i := 4) rfl
  have x5 := hL.cell (i := 5) rfl
  have x6 := hL.cell (i := 6) rfl
  have x7 := hL.cell (i := 7) rfl
  have x8 := hL.cell (i := 8) rfl
  have x9 := hL.cell (i := 9) rfl
  clear hL
  go_wp2_with fail
  refine (newWatermark_any 2 2 100 100 200 4 fa fb fd 1000 (lim_of (by omega) (by omega) (by omega) (by omega)) _).mono ?_
  rintro e w7 ⟨o, q, r, rfl, hW7, ho7, hq7, hr7, hK7⟩
  clear x0 x1 x2 x3 x4 x5 x6 x7 x8 x9
  have hsl := HM6.out.obj.lt
  have hsr := HM6.out.row.lt
  have hsL := HL6.out.lt
  have HSEP : Hid (∀ i, i = b ∨ i = g → o ≠ i ∧ q ≠ i ∧ r ≠ i) := Lib.hid (fun i hi => by omega)
  have HNS : Hid (¬ Ownw o q b g s) := Lib.hid (by have := HBS.out; unfold Ownw; omega)
  have hwk := HK6.out.size
  have HOW : Hid (∀ i, i < w.heap.size → ¬ Ownw o q b g i) := Lib.hid (fun i hi => by have := HB2.out; unfold Ownw; omega)
  have HM7 := Lib.hid (HM6.out.kept hK7 id id)
  have HL7 := Lib.hid (hK7.blk HL6.out id)
  have HK7 := Lib.hid (HK6.out.trans hK7 (fun _ _ h => h))
  have HW7 : Hid (WmAt w7 o q r 4 5 exX 0) := Lib.hid (.inl ⟨rfl, 0, hW7⟩)
  clear hW7 ho7 hq7 hr7 hK7 HM6 HL6 HK6 hsl hsr hsL hwk
  go_wp2_with fail
  go_loopw [4] (fun i wr => ∃ j : Nat, j ≤ 4 ∧ i = .int .i64 j ∧ Mem wr b g l6 j ∧ WmAt wr o q r 4 5 exX j ∧ Blk wr s 29 [.int .i64 ((2 : Nat) : Int), .int .i64 ((2 : Nat) : Int), .int .i64 100, .int .i64 100, .int .i64 200, .int .i64 4, .int .u64 1000, .int .i64 fa, .int .i64 fb, .int .i64 fd] ∧ Kept (fun _ => False) w wr) (fun i _ => 5 - (intOf i).toNat)
  case atStart => exact ⟨0, by omega, rfl, HM7.out, HW7.out, HL7.out, HK7.out⟩
  case round =>
    obtain ⟨j, hj, rfl, hM, hW, hL, hK⟩ := hrel
    have HM := Lib.hid hM
    have HW := Lib.hid hW
    have HL := Lib.hid hL
    have HK := Lib.hid hK
    obtain ⟨r1, hr1⟩ : ∃ r1, decide (j = 4) = r1 := ⟨_, rfl⟩
    clear hM hW hL hK HM7 HW7 HL7 HK7
    go_wp2_with fail
    refine (wm_step HW.out HM.out HS6.out (fun k _ => exX_small k) (by omega) hj HSEP.out (by omega) hr1).mono ?_
    rintro e w9 ⟨rfl, hM9, hW9, hK9⟩
    have HM9 := Lib.hid hM9
    have HW9 := Lib.hid hW9
    have HL9 := Lib.hid (hK9.blk HL.out HNS.out)
    have HK9 := Lib.hid (HK.out.trans hK9 (fun i hi h => (HOW.out i hi h).elim))
    clear hM9 hW9 hK9 HM HW HL HK
    cases r1
    · have hj4 : j ≠ 4 := by simpa using hr1
      go_wp2
      go_roundw
      case rel => exact ⟨j + 1, by omega, by go_num, HM9.out, HW9.out, HL9.out, HK9.out⟩
      case measure => simp [intOf]; omega
    · obtain rfl : j = 4 := by simpa using hr1
      go_wp2_with fail
      refine (wm_end HW9.out exX_low).mono ?_; rintro e w10 ⟨rfl, rfl⟩
      have hL := HL9.out
      have x0 := hL.cell (i := 0) rfl
      have x1 := hL.cell (i := 1) rfl
      have x2 := hL.cell (i := 2) rfl
      have x3 := hL.cell (i := 3) rfl
      have x4 := hL.cell (i := 4) rfl
      have x5 := hL.cell (i := 5) rfl
      have x6 := hL.cell (i := 6) rfl
      have x7 := hL.cell (i := 7) rfl
      have x8 := hL.cell (i := 8) rfl
      have x9 := hL.cell (i := 9) rfl
      clear hL
      go_wp2_with fail
      refine (live_asc 2 2 100 100 200 4 1000 fa fb fd (lim_of (by omega) (by omega) (by omega) (by omega)) b g l6 _ exX 4 rfl (HS6.out.snaps (fun k _ => exX_small k)) [3, 5] exX_raw (by simp) exX_asc _ HM9.out).mono ?_
      rintro e w11 ⟨A, c, rfl, hR11, hB11⟩
      have HR11 := Lib.hid hR11
      have HK11 := Lib.hid (HK9.out.trans (Below.kept hB11 (S := fun i => w9.heap.size ≤ i) (fun _ _ h => h)) (T := fun i => w9.heap.size ≤ i) (fun i hi h => by have := HK9.out.size; omega))
      clear hR11 hB11 x0 x1 x2 x3 x4 x5 x6 x7 x8 x9
      go_wp2_with fail
      have hR12 := HR11.out.alloc (.cells ⟨words [3, 5]⟩ 22)
      have hN12 := Rw.new w11 [3, 5] (by unfold maxLen; simp)
      refine (sameW_any A _ c 2 [3, 5] _ 2 rfl (by omega) hR12 hN12).mono ?_; rintro e w12 ⟨rfl, hB12⟩
      have HK12 := Lib.hid ((HK11.out.alloc (.cells ⟨words [3, 5]⟩ 22)).trans (Below.kept hB12 (S := fun i => (w11.alloc (.cells ⟨words [3, 5]⟩ 22)).heap.size ≤ i) (fun _ _ h => h)) (T := fun i => (w11.alloc (.cells ⟨words [3, 5]⟩ 22)).heap.size ≤ i) (fun i hi h => by have := HK11.out.size; rw [nblk_alloc] at h; omega))
      clear hR12 hN12 hB12
      go_wp2
      go_ret
      exact ⟨rfl, HK12.out⟩

end Go.Proofs.Ytddjggckmmdicaa
