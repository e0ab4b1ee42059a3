/-
  The walk of the statement of layer 6 'Publish waits for the timestamp before its own, and then publishes its own'. Condition: words below 2^64, a byte below 256.
-/
import Derived.Test.YtmnfdecakjobjaaCloAwake
namespace Go.Proofs.Ytmnfdecakjobjaa
open Go.RowKit Go.Deep
set_option linter.unusedVariables false

/-- While the publisher waits, and behind that. -/
structure Pw (w wr : World) (b g q : Nat) (y : Mac) (V c : Nat) : Prop where
  mem : ∃ l, Mem wr b g l c ∧ Cl l 0 V
  pb : Blk wr q 71 (pubb y)
  kept : Kept (fun _ => False) w wr
theorem Pw.pick {w wr wz : World} {b g q V V' c c' : Nat} {y y' : Mac} (h : Pw w wr b g q y V c) (hn : ∀ i, i < w.heap.size → ¬ Own3 q b g i) (hM : ∃ l, Mem wz b g l c' ∧ Cl l 0 V') (hB : Blk wz q 71 (pubb y')) (hK : Kept (Own3 q b g) wr wz) : Pw w wz b g q y' V' c' :=
  ⟨hM, hB, h.kept.trans hK (fun i hi h => (hn i hi h).elim)⟩
theorem Pw.still {w wr wz : World} {b g q V c : Nat} {y : Mac} (h : Pw w wr b g q y V c) (hK : Kept (fun _ => False) wr wz) : Pw w wz b g q y V c :=
  let ⟨l, hM, hC⟩ := h.mem
  ⟨⟨l, hM.kept hK id id, hC⟩, hK.blk h.pb id, h.kept.trans hK (fun _ _ h => h)⟩

set_option maxRecDepth 100000 in
set_option maxHeartbeats 4000000 in
theorem lawWaits (x : Nat) (hx : x < 18446744073709551616) (p : Nat) (hp : p < 18446744073709551616) (st : Nat) (hs : st < 256) (w : World) :
    Calls Try.prog 5 #[.int .u64 (x : Int), .int .u64 (p : Int), .int .u8 (st : Int)] w fun e w' => e = .returned (.bool true) ∧ Below w.heap.size w w' := by
  obtain ⟨n, hn, hn50⟩ : ∃ n : Nat, st % 40 = n ∧ n < 40 := ⟨_, rfl, Nat.mod_lt _ (by omega)⟩
  have hs1 : (st : Int) % 40 = (n : Int) := by omega
  have hs2 : (st : Int).tmod 40 = (n : Int) := by rw [Int.tmod_eq_emod_of_nonneg (by omega)]; omega
  obtain ⟨N, hN, hN1, hN2⟩ : ∃ N : Nat, x % 1000 + 1 = N ∧ 1 ≤ N ∧ N ≤ 1000 := ⟨_, rfl, by omega, by omega⟩
  have hx1 : (x : Int) % 1000 = (N : Int) - 1 := by omega
  have hx2 : (x : Int).tmod 1000 = (N : Int) - 1 := by rw [Int.tmod_eq_emod_of_nonneg (by omega)]; omega
  have hx3 : 2 + ((N : Int) - 1) = ((N + 1 : Nat) : Int) := by omega
  have hx4 : ((N + 1 : Nat) : Int) - 1 = (N : Int) := by omega
  obtain ⟨V, hV, hV1⟩ : ∃ V : Nat, p % N = V ∧ V < N := ⟨_, rfl, Nat.mod_lt _ (by omega)⟩
  have hp1 : (p : Int) % (N : Int) = (V : Int) := by rw [← hV]; rfl
  have hp2 : (p : Int).tmod (N : Int) = (V : Int) := by rw [← hV]; rfl
  clear hn hN hV
  go_enter Try.func5, Try.ntmps5
  go_wp2_with fail
  refine (kitConfig_any 1 _).mono ?_; rintro e w1 ⟨rfl, hK1⟩
  go_wp2_with fail
  refine (kitMem 1 1000 (by omega) (by omega) (by omega) (by omega) _).mono ?_
  intro e w2 hok
  obtain ⟨b, g, l, fa, fb, fd, rfl, hM2, hC2, hl2, hb2, hg2, hK2⟩ := hok
  have hz := hK1.size
  have HM2 := Lib.hid hM2
  have HC2 := Lib.hid hC2
  have HLL := Lib.hid hl2
  have HB2 := Lib.hid (show w.heap.size ≤ b ∧ w.heap.size ≤ g by omega)
  have HK2 := Lib.hid (hK1.trans hK2 (fun _ _ h => h))
  clear hM2 hC2 hl2 hb2 hg2 hz hK1 hK2
  go_wp2_with fail
  have HL := Lib.hid (Blk.new w2 [.int .i64 1, .int .i64 2, .int .i64 100, .int .i64 100, .int .i64 200, .int .i64 4, .int .u64 ((1000 : Nat) : Int), .int .i64 fa, .int .i64 fb, .int .i64 fd] 29)
  have HM3 := Lib.hid (HM2.out.alloc (.cells #[.int .i64 1, .int .i64 2, .int .i64 100, .int .i64 100, .int .i64 200, .int .i64 4, .int .u64 ((1000 : Nat) : Int), .int .i64 fa, .int .i64 fb, .int .i64 fd] 29))
  have HK3 := Lib.hid (HK2.out.alloc (.cells #[.int .i64 1, .int .i64 2, .int .i64 100, .int .i64 100, .int .i64 200, .int .i64 4, .int .u64 ((1000 : Nat) : Int), .int .i64 fa, .int .i64 fb, .int .i64 fd] 29))
  have HBS : Hid (b < w2.heap.size ∧ g < w2.heap.size) := Lib.hid ⟨HM2.out.obj.lt, HM2.out.row.lt⟩
  clear HM2 HK2
  generalize w2.alloc (.cells #[.int .i64 1, .int .i64 2, .int .i64 100, .int .i64 100, .int .i64 200, .int .i64 4, .int .u64 ((1000 : Nat) : Int), .int .i64 fa, .int .i64 fb, .int .i64 fd] 29) = W3 at *
  generalize w2.heap.size = s at *
  refine (awake_any _).mono ?_; rintro e w4 ⟨rfl, hK4⟩
  have HL4 := Lib.hid (hK4.blk HL.out id)
  have HM4 := Lib.hid (HM3.out.kept hK4 id id)
  have HK4 := Lib.hid (HK3.out.trans hK4 (fun _ _ h => h))
  clear hK4 HL HM3 HK3
  go_wp2_with fail
  refine (poke_any b g _ 0 2 (V : Int) 0 ⟨#[]⟩ _ HM4.out).mono ?_; rintro e w5 ⟨rfl, hM5, hK5⟩
  have hC5 := HC2.out.put2 V
  generalize putAt l 2 ((V : Int), ⟨#[]⟩, 0) = l5 at *
  have HM5 := Lib.hid hM5
  have HC5 := Lib.hid hC5
  have hL := hK5.blk HL4.out (by have := HBS.out; unfold Own; omega)
  have HK5 := Lib.hid (HK4.out.trans hK5 (T := Own b g) (fun i hi h => by have := HB2.out; unfold Own at h; omega))
  clear hM5 hK5 HM4 HL4 HK4 hC5 HC2 HLL
  have x0 := hL.cell (i := 0) rfl
  have x1 := hL.cell (i := 1) rfl
  have x2 := hL.cell (i := 2) rfl
  have x3 := hL.cell (i := 3) rfl
  have x4 := hL.cell (i := 4) rfl
  have x5 := hL.cell (i := 5) rfl
  have x6 := hL.cell (i := 6) rfl
  have x7 := hL.cell (i := 7) rfl
  have x8 := hL.cell (i := 8) rfl
  have x9 := hL.cell (i := 9) rfl
  clear hL
  go_wp2_with fail
  refine (newPublish_any 1 2 100 100 200 4 fa fb fd 1000 (N + 1) _).mono ?_
  rintro e w6 ⟨q, rfl, hQ6, hq6, hz6, hK6⟩
  clear x0 x1 x2 x3 x4 x5 x6 x7 x8 x9
  have hqb : q ≠ b := by have := HM5.out.obj.lt; omega
  have hqg : q ≠ g := by have := HM5.out.row.lt; omega
  have hn3 : Hid (∀ i, i < w.heap.size → ¬ Own3 q b g i) := Lib.hid (fun i hi => by have := HB2.out; have := HK5.out.size; unfold Own3; omega)
  have HP := Lib.hid (show Pw w w6 b g q (2, N) V 0 from ⟨⟨l5, HM5.out.kept hK6 id id, HC5.out⟩, hQ6, HK5.out.trans hK6 (fun _ _ h => h)⟩)
  clear hQ6 hq6 hz6 hK6 HM5 HC5 HK5
  go_wp2_with fail
  go_loopw [11] (fun i wr => ∃ k : Nat, k ≤ n ∧ i = .int .i64 k ∧ Pw w wr b g q (2, N) V k) (fun i _ => n - (intOf i).toNat)
  case atStart => exact ⟨0, by omega, rfl, HP.out⟩
  case round =>
    obtain ⟨k, hk, rfl, hP⟩ := hrel
    clear HP
    have HP := Lib.hid hP
    clear hP
    by_cases hlt : k < n
    · go_wp2_with fail
      obtain ⟨l', hMl, hCl⟩ := HP.out.mem
      refine (pub_pick (y := (2, N)) (y' := (2, N)) (V' := V) (r := false) (c' := k + 1) (.inl rfl) HP.out.pb hMl hCl hqb hqg (by omega) (by simp only; omega) (by simp [pmoved]; omega) rfl rfl rfl).mono ?_; rintro e w7 ⟨rfl, l7, hM7, _, hC7, hB7, hK7⟩
      have HN := Lib.hid (HP.out.pick hn3.out ⟨l7, hM7, hC7⟩ hB7 hK7)
      clear hM7 hC7 hB7 hK7 hMl hCl HP
      go_wp2_with fail
      obtain ⟨l8, hM8, hC8⟩ := HN.out.mem
      refine (peek_any b g l8 (k + 1) 2 (V : Int) 0 ⟨#[]⟩ _ hM8 hC8.v).mono ?_; rintro e w8 ⟨rfl, hK8⟩
      have hfd := field0 (V : Int) 0 ⟨#[]⟩
      have HN8 := Lib.hid (HN.out.still hK8)
      clear hK8 hM8 hC8 HN
      go_wp2
      go_roundw
      case rel => exact ⟨k + 1, by omega, by go_num, HN8.out⟩
      case measure => simp [intOf]; omega
    · obtain rfl : k = n := by omega
      go_wp2_with fail
      obtain ⟨l', hMl, hCl⟩ := HP.out.mem
      refine (poke_any b g l' k 2 (N : Int) 0 ⟨#[]⟩ _ hMl).mono ?_; rintro e w7 ⟨rfl, hM7, hK7⟩
      have HP7 := Lib.hid (show Pw w w7 b g q (2, N) N k from ⟨⟨_, hM7, hCl.put2 N⟩, hK7.blk HP.out.pb (by unfold Own; omega), HP.out.kept.trans hK7 (T := Own b g) (fun i hi h => (hn3.out i hi (.inr h)).elim)⟩)
      clear hM7 hK7 hMl hCl HP
      go_wp2_with fail
      go_loopw [12] (fun i wf => ∃ (j s : Nat), j ≤ 1 ∧ s = 2 + 2 * j ∧ i = .int .i64 j ∧ Pw w wf b g q (s, N) N (k + j)) (fun i _ => 2 - (intOf i).toNat)
      case atStart => exact ⟨0, 2, by omega, rfl, rfl, HP7.out⟩
      case round =>
        obtain ⟨j, s', hj, hs', rfl, hF⟩ := hrel
        have HF := Lib.hid hF
        clear hF HP7
        rcases (by omega : j = 0 ∨ j = 1) with rfl | rfl
        · obtain rfl : s' = 2 := by omega
          clear hs'
          go_wp2_with fail
          obtain ⟨l', hMl, hCl⟩ := HF.out.mem
          refine (pub_pick (y := (2, N)) (y' := (4, N)) (V' := N) (r := false) (c' := k + 0 + 1) (.inl rfl) HF.out.pb hMl hCl hqb hqg (by omega) (by simp only; omega) (by simp [pmoved]) rfl rfl rfl).mono ?_; rintro e w8 ⟨rfl, l8, hM8, _, hC8, hB8, hK8⟩
          have HN := Lib.hid (HF.out.pick hn3.out ⟨l8, hM8, hC8⟩ hB8 hK8)
          clear hM8 hC8 hB8 hK8 hMl hCl HF
          go_wp2_with fail
          obtain ⟨l9, hM9, hC9⟩ := HN.out.mem
          refine (peek_any b g l9 (k + 0 + 1) 2 (N : Int) 0 ⟨#[]⟩ _ hM9 hC9.v).mono ?_; rintro e w9 ⟨rfl, hK9⟩
          have hfd := field0 (N : Int) 0 ⟨#[]⟩
          have HN9 := Lib.hid (HN.out.still hK9)
          clear hK9 hM9 hC9 HN
          go_wp2
          go_roundw
          case rel => exact ⟨1, 4, by omega, rfl, by go_num, HN9.out⟩
          case measure => simp [intOf]
        · obtain rfl : s' = 4 := by omega
          clear hs'
          go_wp2_with fail
          obtain ⟨l', hMl, hCl⟩ := HF.out.mem
          refine (pub_pick (y := (4, N)) (y' := (5, N)) (V' := N + 1) (r := true) (c' := k + 1 + 1) (.inr (.inl rfl)) HF.out.pb hMl hCl hqb hqg (by omega) (by simp only; omega) rfl rfl rfl rfl).mono ?_; rintro e w8 ⟨rfl, l8, hM8, _, hC8, hB8, hK8⟩
          have HN := Lib.hid (HF.out.pick hn3.out ⟨l8, hM8, hC8⟩ hB8 hK8)
          clear hM8 hC8 hB8 hK8 hMl hCl HF
          go_wp2_with fail
          obtain ⟨l9, hM9, hC9⟩ := HN.out.mem
          refine (accesses_any b g l9 (k + 1 + 1) _ hM9).mono ?_; rintro e w9 ⟨rfl, rfl⟩
          go_wp2_with fail
          refine (pub_pick (y := (5, N)) (y' := (5, N)) (V' := N + 1) (r := true) (c' := k + 1 + 1) (.inr (.inr rfl)) HN.out.pb hM9 hC9 hqb hqg (by omega) (by simp only; omega) rfl rfl rfl rfl).mono ?_; rintro e w10 ⟨rfl, l10, hM10, _, hC10, hB10, hK10⟩
          have HK10 := Lib.hid (HN.out.pick hn3.out ⟨l10, hM10, hC10⟩ hB10 hK10).kept
          clear hB10 hK10 HN hM9 hC9
          go_wp2_with fail
          refine (accesses_any b g l10 (k + 1 + 1) _ hM10).mono ?_; rintro e w11 ⟨rfl, rfl⟩
          go_wp2_with fail
          refine (peek_any b g l10 (k + 1 + 1) 2 ((N : Int) + 1) 0 ⟨#[]⟩ _ hM10 (hC10.v.trans (by simp))).mono ?_; rintro e w12 ⟨rfl, hK12⟩
          have hfd := field0 ((N : Int) + 1) 0 ⟨#[]⟩
          have HK12 := Lib.hid (HK10.out.trans hK12 (fun _ _ h => h))
          clear hK12 hM10 hC10 HK10
          go_wp2
          go_ret
          exact ⟨rfl, HK12.out.below (Nat.le_refl _) (fun _ h => h.elim)⟩

end Go.Proofs.Ytmnfdecakjobjaa
