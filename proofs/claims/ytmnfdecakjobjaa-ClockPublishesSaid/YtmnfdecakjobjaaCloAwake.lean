/-
  The sanity check of layer 6's statements ('awake') returns true; nothing that was there is written. Condition: none.
-/
import Derived.Test.YtmnfdecakjobjaaCloKit
namespace Go.Proofs.Ytmnfdecakjobjaa
open Go.RowKit Go.Deep
set_option linter.unusedVariables false

/-- What the kit's Memory answers for its own small configurations. -/
def MemOk (T : Int) (lim : Nat) (w : World) (e : Ending) (w' : World) : Prop :=
  ∃ (b g : Nat) (l : List Cel) (fa fb fd : Int), e = .returned (.tuple #[.agg #[.int .i64 T, .int .i64 2, .int .i64 100, .int .i64 100, .int .i64 200, .int .i64 4, .int .u64 (lim : Int), .int .i64 fa, .int .i64 fb, .int .i64 fd], .pointer (some ⟨b, 0, none⟩)]) ∧ Mem w' b g l 0 ∧ Cl l 0 0 ∧ l.length ≤ 1048576 ∧ w.heap.size ≤ b ∧ w.heap.size ≤ g ∧ Kept (fun _ => False) w w'
theorem kitMem (T : Int) (lim : Nat) (h1 : 1 ≤ T) (h2 : T ≤ 64) (hl1 : 1 ≤ lim) (hl2 : lim ≤ 1099511627776) (w : World) :
    Calls Try.prog 8 #[.agg #[.int .i64 T, .int .i64 2, .int .i64 100, .int .i64 100, .int .i64 200, .int .i64 4, .int .u64 (lim : Int)]] w (MemOk T lim w) := by
  have hl : Lim T 2 100 100 200 4 := by constructor <;> omega
  refine (kitMemory_yes T 2 100 100 200 4 (lim : Int) hl (by omega) (by omega) w).mono ?_
  rintro e w' ⟨b, g, he, hM, hb, hg, hK⟩
  have hlen := startCells_length T 2 100 100 200 4 hl
  have hbd := allCells_bd hl
  have hts := hl.ts
  refine ⟨b, g, _, _, _, _, he, hM, startCells_cl T 2 100 100 200 4 hl ?_ ?_, by omega, hb, hg, hK⟩
  · unfold allCells firstRecord firstChain firstNode; omega
  · unfold nodeAt firstNode; rw [if_pos (by omega)]; omega

/-- The example's memory, layout and taker; then its publisher. -/
structure Aw (w wr : World) (s b g p q : Nat) (lay : List Value) (y : Mac) (A c : Nat) : Prop where
  mem : ∃ l, Mem wr b g l c ∧ Cl l A 0
  lay : Blk wr s 29 lay
  pa : Blk wr p 66 [.pointer (some ⟨q, 0, none⟩)]
  qa : Blk wr q 82 (macb 1000 y)
  lt : w.heap.size ≤ b ∧ w.heap.size ≤ g ∧ w.heap.size ≤ q
  ne : q ≠ b ∧ q ≠ g
  ns : s ≠ b ∧ s ≠ g ∧ s ≠ q
  np : p ≠ b ∧ p ≠ g ∧ p ≠ q
  kept : Kept (fun _ => False) w wr
structure Aw2 (w wr : World) (s b g q : Nat) (lay : List Value) (y : Mac) (V c : Nat) : Prop where
  mem : ∃ l, Mem wr b g l c ∧ Cl l 1 V
  lay : Blk wr s 29 lay
  qa : Blk wr q 71 (pubb y)
  lt : w.heap.size ≤ b ∧ w.heap.size ≤ g ∧ w.heap.size ≤ q
  ne : q ≠ b ∧ q ≠ g
  ns : s ≠ b ∧ s ≠ g ∧ s ≠ q
  kept : Kept (fun _ => False) w wr
theorem Aw.pick {w wr wz : World} {s b g p q A A' c c' : Nat} {lay : List Value} {y y' : Mac} (h : Aw w wr s b g p q lay y A c) (hM : ∃ l, Mem wz b g l c' ∧ Cl l A' 0) (hB : Blk wz q 82 (macb 1000 y')) (hK : Kept (Own3 q b g) wr wz) : Aw w wz s b g p q lay y' A' c' := by
  have := h.lt; have := h.ns; have := h.np
  exact ⟨hM, hK.blk h.lay (by unfold Own3; omega), hK.blk h.pa (by unfold Own3; omega), hB, h.lt, h.ne, h.ns, h.np, h.kept.trans hK (fun i hi h => by unfold Own3 at h; omega)⟩
theorem Aw2.pick {w wr wz : World} {s b g q V V' c c' : Nat} {lay : List Value} {y y' : Mac} (h : Aw2 w wr s b g q lay y V c) (hM : ∃ l, Mem wz b g l c' ∧ Cl l 1 V') (hB : Blk wz q 71 (pubb y')) (hK : Kept (Own3 q b g) wr wz) : Aw2 w wz s b g q lay y' V' c' := by
  have := h.lt; have := h.ns
  exact ⟨hM, hK.blk h.lay (by unfold Own3; omega), hB, h.lt, h.ne, h.ns, h.kept.trans hK (fun i hi h => by unfold Own3 at h; omega)⟩

def awX (j : Nat) : Mac := if j = 0 then (0, 0) else if j = 1 then (1, 0) else (2, 0)
def awV (j : Nat) : Nat := if j ≤ 1 then 0 else 1
def awY (j : Nat) : Mac := if j = 0 then (2, 0) else if j = 1 then (4, 0) else (5, 0)
theorem awX_next (j : Nat) : moved 1000 ((awX j).2 + 1) (awX j) (awV j) = awX (j + 1) ∧ counts ((awX j).2 + 1) (awX j) (awV j) = awV (j + 1) := by
  rcases (by omega : j = 0 ∨ j = 1 ∨ 2 ≤ j) with rfl | rfl | h
  · exact ⟨rfl, rfl⟩
  · exact ⟨rfl, rfl⟩
  · have h1 : awX j = (2, 0) := by unfold awX; rw [if_neg (by omega), if_neg (by omega)]
    have h2 : awX (j + 1) = (2, 0) := by unfold awX; rw [if_neg (by omega), if_neg (by omega)]
    have h3 : awV j = 1 := by unfold awV; rw [if_neg (by omega)]
    have h4 : awV (j + 1) = 1 := by unfold awV; rw [if_neg (by omega)]
    rw [h1, h2, h3, h4]; exact ⟨rfl, rfl⟩
theorem awY_next (j : Nat) : pmoved (awY j) (awV j) = awY (j + 1) ∧ pcounts (awY j) (awV j) = awV (j + 1) := by
  rcases (by omega : j = 0 ∨ j = 1 ∨ 2 ≤ j) with rfl | rfl | h
  · exact ⟨rfl, rfl⟩
  · exact ⟨rfl, rfl⟩
  · have h1 : awY j = (5, 0) := by unfold awY; rw [if_neg (by omega), if_neg (by omega)]
    have h2 : awY (j + 1) = (5, 0) := by unfold awY; rw [if_neg (by omega), if_neg (by omega)]
    have h3 : awV j = 1 := by unfold awV; rw [if_neg (by omega)]
    have h4 : awV (j + 1) = 1 := by unfold awV; rw [if_neg (by omega)]
    rw [h1, h2, h3, h4]; exact ⟨rfl, rfl⟩
theorem awX_small (j : Nat) : (awX j).1 ≤ 3 ∧ (awX j).2 = 0 := by unfold awX; split <;> (try split) <;> simp
theorem awY_small (j : Nat) : ((awY j).1 = 2 ∨ (awY j).1 = 4 ∨ (awY j).1 = 5) ∧ (awY j).2 = 0 := by unfold awY; split <;> (try split) <;> simp
theorem ite_le (p : Prop) [Decidable p] (c : Nat) : (if p then c else c + 1) ≤ c + 1 := by split <;> omega

set_option maxHeartbeats 2000000 in
theorem awake_any (w : World) :
    Calls Try.prog 9 #[] w fun e w' => e = .returned (.bool true) ∧ Kept (fun _ => False) w w' := by
  go_enter Try.func9, Try.ntmps9
  go_wp2_with fail
  refine (kitConfig_any 1 _).mono ?_; rintro e w1 ⟨rfl, hK1⟩
  go_wp2_with fail
  refine (kitMem 1 1000 (by omega) (by omega) (by omega) (by omega) _).mono ?_
  intro e w2 hok
  obtain ⟨b, g, l, fa, fb, fd, rfl, hM2, hC2, hl2, hb2, hg2, hK2⟩ := hok
  have hz := hK1.size
  have HM2 := Lib.hid hM2
  have HC2 := Lib.hid hC2
  have HB2 := Lib.hid (show w.heap.size ≤ b ∧ w.heap.size ≤ g by omega)
  have HK2 := Lib.hid (hK1.trans hK2 (fun _ _ h => h))
  clear hM2 hC2 hl2 hb2 hg2 hz hK1 hK2
  go_wp2_with fail
  have hL := Blk.new w2 [.int .i64 1, .int .i64 2, .int .i64 100, .int .i64 100, .int .i64 200, .int .i64 4, .int .u64 ((1000 : Nat) : Int), .int .i64 fa, .int .i64 fb, .int .i64 fd] 29
  have hM3 := HM2.out.alloc (.cells #[.int .i64 1, .int .i64 2, .int .i64 100, .int .i64 100, .int .i64 200, .int .i64 4, .int .u64 ((1000 : Nat) : Int), .int .i64 fa, .int .i64 fb, .int .i64 fd] 29)
  have hK3 := HK2.out.alloc (.cells #[.int .i64 1, .int .i64 2, .int .i64 100, .int .i64 100, .int .i64 200, .int .i64 4, .int .u64 ((1000 : Nat) : Int), .int .i64 fa, .int .i64 fb, .int .i64 fd] 29)
  have hbs : b < w2.heap.size ∧ g < w2.heap.size := ⟨HM2.out.obj.lt, HM2.out.row.lt⟩
  have hws := HK2.out.size
  clear HM2 HK2
  generalize w2.alloc (.cells #[.int .i64 1, .int .i64 2, .int .i64 100, .int .i64 100, .int .i64 200, .int .i64 4, .int .u64 ((1000 : Nat) : Int), .int .i64 fa, .int .i64 fb, .int .i64 fd] 29) = W3 at *
  generalize w2.heap.size = s at *
  have hsl := hL.lt
  refine (newAllocate_any 1 2 100 100 200 4 fa fb fd 1000 _).mono ?_
  rintro e w4 ⟨p, q, rfl, hP4, hQ4, hq4, rfl, hz4, hK4⟩
  have HA := Lib.hid (show Aw w w4 s b g (q + 1) q _ (0, 0) 0 0 from ⟨⟨l, hM3.kept hK4 id id, HC2.out⟩, hK4.blk hL id, hP4, hQ4, by have := HB2.out; omega, by omega, by omega, by omega, hK3.trans hK4 (fun _ _ h => h)⟩)
  clear hP4 hQ4 hq4 hz4 hK4 hM3 hK3 hL hbs hws hsl HC2 HB2
  go_wp2_with fail
  go_loopw [4] (fun i wr => ∃ j c : Nat, j ≤ 9 ∧ c ≤ j ∧ i = .int .i64 j ∧ Aw w wr s b g (q + 1) q [.int .i64 1, .int .i64 2, .int .i64 100, .int .i64 100, .int .i64 200, .int .i64 4, .int .u64 ((1000 : Nat) : Int), .int .i64 fa, .int .i64 fb, .int .i64 fd] (awX j) (awV j) c) (fun i _ => 9 - (intOf i).toNat)
  case atStart => exact ⟨0, 0, by omega, by omega, rfl, HA.out⟩
  case round =>
    obtain ⟨j, c, hj, hcj, rfl, hS⟩ := hrel
    clear HA
    have HS := Lib.hid hS
    clear hS
    by_cases hlt : j < 9
    · go_wp2_with fail
      obtain ⟨l', hMl, hCl⟩ := HS.out.mem
      refine (alloc_pick (awX_small j).1 HS.out.pa HS.out.qa hMl hCl HS.out.ne.1 HS.out.ne.2 (by omega) (by have := (awX_small j).2; omega) (awX_next j).1 (awX_next j).2 rfl rfl).mono ?_; rintro e w5 ⟨rfl, l5, hM5, _, hC5, hB5, hK5⟩
      have HN := Lib.hid (HS.out.pick ⟨l5, hM5, hC5⟩ hB5 hK5)
      clear hM5 hC5 hB5 hK5 hMl hCl
      go_wp2
      go_roundw
      case rel => exact ⟨j + 1, _, by omega, Nat.le_trans (ite_le _ _) (by omega), by go_num, HN.out⟩
      case measure => simp [intOf]; omega
    · have h9 : j = 9 := by omega
      have HT := Lib.hid (show Aw w wr s b g (q + 1) q [.int .i64 1, .int .i64 2, .int .i64 100, .int .i64 100, .int .i64 200, .int .i64 4, .int .u64 ((1000 : Nat) : Int), .int .i64 fa, .int .i64 fb, .int .i64 fd] (2, 0) 1 c by have := HS.out; rw [h9] at this; exact this)
      clear HS h9
      rename Hid _ => HS
      go_wp2_with fail
      refine (allocTime_of HS.out.pa (number_yes _ _ 1 0 ⟨#[]⟩ 0 _ _ _ _ HS.out.qa (by omega))).mono ?_; rintro e w6 ⟨rfl, rfl⟩
      have hL := HS.out.lay
      have x0 := hL.cell (i := 0) rfl
      have x1 := hL.cell (i := 1) rfl
      have x2 := hL.cell (i := 2) rfl
      have x3 := hL.cell (i := 3) rfl
      have x4 := hL.cell (i := 4) rfl
      have x5 := hL.cell (i := 5) rfl
      have x6 := hL.cell (i := 6) rfl
      have x7 := hL.cell (i := 7) rfl
      have x8 := hL.cell (i := 8) rfl
      have x9 := hL.cell (i := 9) rfl
      clear hL
      go_wp2_with fail
      refine (newPublish_any 1 2 100 100 200 4 fa fb fd 1000 1 _).mono ?_
      rintro e w7 ⟨r, rfl, hR7, hr7, hz7, hK7⟩
      clear x0 x1 x2 x3 x4 x5 x6 x7 x8 x9
      obtain ⟨l', hMl, hCl⟩ := HS.out.mem
      have HA := Lib.hid (show Aw2 w w7 s b g r [.int .i64 1, .int .i64 2, .int .i64 100, .int .i64 100, .int .i64 200, .int .i64 4, .int .u64 ((1000 : Nat) : Int), .int .i64 fa, .int .i64 fb, .int .i64 fd] (2, 0) 0 c from ⟨⟨l', hMl.kept hK7 id id, hCl⟩, hK7.blk HS.out.lay id, hR7, by have := HS.out.lt; have := HS.out.kept.size; omega, by have := hMl.obj.lt; have := hMl.row.lt; omega, by have := HS.out.ns; have := HS.out.lay.lt; omega, HS.out.kept.trans hK7 (fun _ _ h => h)⟩)
      clear hR7 hr7 hz7 hK7 hMl hCl HS
      go_wp2_with fail
      rename World => W1
      go_loopw [8] (fun i wr => ∃ j c : Nat, j ≤ 9 ∧ c ≤ j + 9 ∧ i = .int .i64 j ∧ Aw2 w wr s b g r [.int .i64 1, .int .i64 2, .int .i64 100, .int .i64 100, .int .i64 200, .int .i64 4, .int .u64 ((1000 : Nat) : Int), .int .i64 fa, .int .i64 fb, .int .i64 fd] (awY j) (awV j) c) (fun i _ => 9 - (intOf i).toNat)
      case atStart => exact ⟨0, _, by omega, by omega, rfl, HA.out⟩
      case round =>
        obtain ⟨j, c, hj, hcj, rfl, hS⟩ := hrel
        clear HA
        have HS := Lib.hid hS
        clear hS
        by_cases hlt : j < 9
        · go_wp2_with fail
          obtain ⟨l', hMl, hCl⟩ := HS.out.mem
          refine (pub_pick (awY_small j).1 HS.out.qa hMl hCl HS.out.ne.1 HS.out.ne.2 (by omega) (by have := (awY_small j).2; omega) (awY_next j).1 (awY_next j).2 rfl rfl).mono ?_; rintro e w5 ⟨rfl, l5, hM5, _, hC5, hB5, hK5⟩
          have HN := Lib.hid (HS.out.pick ⟨l5, hM5, hC5⟩ hB5 hK5)
          clear hM5 hC5 hB5 hK5 hMl hCl
          go_wp2
          go_roundw
          case rel => exact ⟨j + 1, _, by omega, Nat.le_trans (ite_le _ _) (by omega), by go_num, HN.out⟩
          case measure => simp [intOf]; omega
        · have h9 : j = 9 := by omega
          have HT := Lib.hid (show Aw2 w wr s b g r [.int .i64 1, .int .i64 2, .int .i64 100, .int .i64 100, .int .i64 200, .int .i64 4, .int .u64 ((1000 : Nat) : Int), .int .i64 fa, .int .i64 fb, .int .i64 fd] (5, 0) 1 c by have := HS.out; rw [h9] at this; exact this)
          clear HS h9
          rename Hid _ => HS
          have hL := HS.out.lay
          have x0 := hL.cell (i := 0) rfl
          have x1 := hL.cell (i := 1) rfl
          have x2 := hL.cell (i := 2) rfl
          have x3 := hL.cell (i := 3) rfl
          have x4 := hL.cell (i := 4) rfl
          have x5 := hL.cell (i := 5) rfl
          have x6 := hL.cell (i := 6) rfl
          have x7 := hL.cell (i := 7) rfl
          have x8 := hL.cell (i := 8) rfl
          have x9 := hL.cell (i := 9) rfl
          clear hL
          go_wp2_with fail
          refine (newNow_any 1 2 100 100 200 4 fa fb fd 1000 _).mono ?_
          rintro e w8 ⟨t, rfl, hT8, ht8, hz8, hK8⟩
          clear x0 x1 x2 x3 x4 x5 x6 x7 x8 x9
          obtain ⟨l', hMl, hCl⟩ := HS.out.mem
          have hMl8 := hMl.kept hK8 id id
          have HK8 := Lib.hid (HS.out.kept.trans hK8 (fun _ _ h => h))
          have HT8 := Lib.hid hT8
          have hn1 : t ≠ b := by have := hMl.obj.lt; omega
          have hn2 : t ≠ g := by have := hMl.row.lt; omega
          have hn3 : ∀ i, i < w.heap.size → ¬ Own3 t b g i := fun i hi => by have := HS.out.lt; have := HS.out.kept.size; unfold Own3; omega
          clear hT8 hK8 hMl ht8 hz8 HS
          go_wp2_with fail
          refine (nowStep_load t b g _ c 2 1 ⟨#[]⟩ 0 0 _ HT8.out hMl8 hn1 hn2 (by omega) hCl.v).mono ?_; rintro e w9 ⟨rfl, hM9, hB9, hK9⟩
          have HB9 := Lib.hid hB9
          have HK9 := Lib.hid (HK8.out.trans hK9 (T := Own3 t b g) (fun i hi h => (hn3 i hi h).elim))
          clear hM9 hB9 hK9 hMl8 hCl HT8 HK8
          go_wp2_with fail
          refine (nowTime_any t _ 1 _ _ HB9.out).mono ?_; rintro e w10 ⟨rfl, rfl⟩
          go_wp2
          go_ret
          exact ⟨rfl, HK9.out⟩

end Go.Proofs.Ytmnfdecakjobjaa
