/-
  The sanity check of layer 5's statements ('awake') returns true; nothing that was there is written. Condition: none.
-/
import Derived.Test.YtjligbinelmhcaaAllRun
namespace Go.Proofs.Ytjligbinelmhcaa
open Go.RowKit Go.Deep
set_option linter.unusedVariables false

/-- The example's memory, counter and two machines. -/
structure Aw (w wr : World) (b g qa qb : Nat) (x y : Mac) (v c : Nat) : Prop where
  mem : Mem wr b g [((v : Int), ⟨#[]⟩, 0)] c
  ba : Blk wr qa 56 (macb 5 x)
  bb : Blk wr qb 56 (macb 5 y)
  lt : w.heap.size ≤ b ∧ w.heap.size ≤ g ∧ w.heap.size ≤ qa ∧ w.heap.size ≤ qb
  ne : qa ≠ b ∧ qa ≠ g ∧ qb ≠ b ∧ qb ≠ g ∧ qa ≠ qb
  kept : Kept (fun _ => False) w wr

theorem Aw.pick1 {w wr wz : World} {b g qa qb v v' c c' : Nat} {x x' y : Mac} (h : Aw w wr b g qa qb x y v c) (hM : Mem wz b g [((v' : Int), ⟨#[]⟩, 0)] c') (hB : Blk wz qa 56 (macb 5 x')) (hK : Kept (Own3 qa b g) wr wz) :
    Aw w wz b g qa qb x' y v' c' := by
  have := h.lt; have := h.ne
  exact ⟨hM, hB, hK.blk h.bb (by unfold Own3; omega), h.lt, h.ne, h.kept.trans hK (fun i hi h => by unfold Own3 at h; omega)⟩
theorem Aw.pick2 {w wr wz : World} {b g qa qb v v' c c' : Nat} {x y y' : Mac} (h : Aw w wr b g qa qb x y v c) (hM : Mem wz b g [((v' : Int), ⟨#[]⟩, 0)] c') (hB : Blk wz qb 56 (macb 5 y')) (hK : Kept (Own3 qb b g) wr wz) :
    Aw w wz b g qa qb x y' v' c' := by
  have := h.lt; have := h.ne
  exact ⟨hM, hK.blk h.ba (by unfold Own3; omega), hB, h.lt, h.ne, h.kept.trans hK (fun i hi h => by unfold Own3 at h; omega)⟩
theorem Aw.start {w w3 w4 : World} {b g : Nat} (hM : Mem w4 b g [((4 : Int), ⟨#[]⟩, 0)] 0) (hb : w.heap.size ≤ b ∧ w.heap.size ≤ g) (hK3 : Kept (fun _ => False) w w3) (hK : Kept (Own b g) w3 w4) :
    Aw w ((w4.alloc (.cells ⟨macv 0 0 ⟨#[]⟩ 0 false 5 false false⟩ 56)).alloc (.cells ⟨macv 0 0 ⟨#[]⟩ 0 false 5 false false⟩ 56)) b g w4.heap.size (w4.heap.size + 1) (0, 0) (0, 0) 4 0 := by
  have h1 := hM.obj.lt
  have h2 := hM.row.lt
  have hs := hK.size
  have hs3 := hK3.size
  have hB := Blk.new (w4.alloc (.cells ⟨macv 0 0 ⟨#[]⟩ 0 false 5 false false⟩ 56)) (macv 0 0 ⟨#[]⟩ 0 false 5 false false) 56
  rw [nblk_alloc] at hB
  exact ⟨(hM.alloc _).alloc _, (Blk.new w4 (macv 0 0 ⟨#[]⟩ 0 false 5 false false) 56).alloc _, hB, by omega, by omega, ((hK3.trans hK (fun i hi h => by unfold Own at h; omega)).alloc _).alloc _⟩

def awX (j : Nat) : Mac := if j = 0 then (0, 0) else if j = 1 then (1, 4) else (2, 4)
def awV (j : Nat) : Nat := if j ≤ 1 then 4 else 5
def awY (j : Nat) : Mac := if j = 0 then (0, 0) else (3, 5)
theorem awX_next (j : Nat) : moved 5 ((awX j).2 + 1) (awX j) (awV j) = awX (j + 1) ∧ counts ((awX j).2 + 1) (awX j) (awV j) = awV (j + 1) := by
  rcases (by omega : j = 0 ∨ j = 1 ∨ 2 ≤ j) with rfl | rfl | h
  · exact ⟨rfl, rfl⟩
  · exact ⟨rfl, rfl⟩
  · have h1 : awX j = (2, 4) := by unfold awX; rw [if_neg (by omega), if_neg (by omega)]
    have h2 : awX (j + 1) = (2, 4) := by unfold awX; rw [if_neg (by omega), if_neg (by omega)]
    have h3 : awV j = 5 := by unfold awV; rw [if_neg (by omega)]
    have h4 : awV (j + 1) = 5 := by unfold awV; rw [if_neg (by omega)]
    rw [h1, h2, h3, h4]; exact ⟨rfl, rfl⟩
theorem awY_next (j : Nat) : moved 5 ((awY j).2 + 1) (awY j) 5 = awY (j + 1) ∧ counts ((awY j).2 + 1) (awY j) 5 = 5 := by
  rcases (by omega : j = 0 ∨ 1 ≤ j) with rfl | h
  · exact ⟨rfl, rfl⟩
  · have h1 : awY j = (3, 5) := by unfold awY; rw [if_neg (by omega)]
    have h2 : awY (j + 1) = (3, 5) := by unfold awY; rw [if_neg (by omega)]
    rw [h1, h2]; exact ⟨rfl, rfl⟩
theorem awX_small (j : Nat) : (awX j).1 ≤ 3 ∧ (awX j).2 ≤ 5 := by unfold awX; split <;> (try split) <;> simp
theorem awY_small (j : Nat) : (awY j).1 ≤ 3 ∧ (awY j).2 ≤ 5 := by unfold awY; split <;> simp
theorem ite_le (p : Prop) [Decidable p] (c : Nat) : (if p then c else c + 1) ≤ c + 1 := by split <;> omega

set_option maxHeartbeats 1000000 in
theorem awake_any (w : World) :
    Calls Try.prog 8 #[] w fun e w' => e = .returned (.bool true) ∧ Kept (fun _ => False) w w' := by
  go_enter Try.func8, Try.ntmps8
  go_wp2_with fail
  refine (new_1 _).mono ?_; rintro e w3 ⟨rfl, hM3, hK3⟩
  have HM3 := Lib.hid hM3
  have HK3 := Lib.hid hK3
  clear hM3 hK3
  go_wp2_with fail
  refine (poke_any _ _ _ _ 0 4 0 ⟨#[]⟩ _ HM3.out).mono ?_; rintro e w4 ⟨rfl, hM4, hK4⟩
  have HM4 := Lib.hid hM4
  have HK4 := Lib.hid hK4
  clear hM4 hK4
  go_wp2_with fail
  refine (newTake_any 0 5 _).mono ?_; rintro e w5 ⟨rfl, rfl⟩
  go_wp2_with fail
  refine (newTake_any 0 5 _).mono ?_; rintro e w5 ⟨rfl, rfl⟩
  have hA := Lib.hid (Aw.start HM4.out ⟨Nat.le_succ _, Nat.le_refl _⟩ HK3.out HK4.out)
  clear HM3 HM4 HK4 HK3
  go_wp2_with fail
  go_loopw [5] (fun i wr => ∃ j c : Nat, j ≤ 9 ∧ c ≤ j ∧ i = .int .i64 j ∧ Aw w wr (w.heap.size + 1) w.heap.size w4.heap.size (w4.heap.size + 1) (awX j) (0, 0) (awV j) c) (fun i _ => 9 - (intOf i).toNat)
  case atStart => exact ⟨0, 0, by omega, by omega, rfl, hA.out⟩
  case round =>
    obtain ⟨j, c, hj, hcj, rfl, hS⟩ := hrel
    clear hA
    have HS := Lib.hid hS
    clear hS
    by_cases hlt : j < 9
    · go_wp2_with fail
      refine (take_pick (awX_small j).1 HS.out.ba HS.out.mem HS.out.ne.1 HS.out.ne.2.1 (by omega) (by have := (awX_small j).2; omega) (awX_next j).1 (awX_next j).2 rfl rfl).mono ?_; rintro e w5 ⟨rfl, hM5, hB5, hK5⟩
      have HN := Lib.hid (HS.out.pick1 hM5 hB5 hK5)
      clear hM5 hB5 hK5
      go_wp2
      go_roundw
      case rel => exact ⟨j + 1, _, by omega, Nat.le_trans (ite_le _ _) (by omega), by go_num, HN.out⟩
      case measure => simp [intOf]; omega
    · have h9 : j = 9 := by omega
      have HT := Lib.hid (show Aw w wr (w.heap.size + 1) w.heap.size w4.heap.size (w4.heap.size + 1) (2, 4) (0, 0) 5 c by have := HS.out; rw [h9] at this; exact this)
      clear HS h9
      rename Hid _ => HS
      go_wp2_with fail
      rename World => W1
      go_loopw [6] (fun i wr => ∃ j c : Nat, j ≤ 9 ∧ c ≤ j + 9 ∧ i = .int .i64 j ∧ Aw w wr (w.heap.size + 1) w.heap.size w4.heap.size (w4.heap.size + 1) (2, 4) (awY j) 5 c) (fun i _ => 9 - (intOf i).toNat)
      case atStart => exact ⟨0, _, by omega, by omega, rfl, HS.out⟩
      case round =>
        obtain ⟨j, c, hj, hcj, rfl, hS⟩ := hrel
        clear HS
        have HS := Lib.hid hS
        clear hS
        by_cases hlt : j < 9
        · go_wp2_with fail
          refine (take_pick (awY_small j).1 HS.out.bb HS.out.mem HS.out.ne.2.2.1 HS.out.ne.2.2.2.1 (by omega) (by have := (awY_small j).2; omega) (awY_next j).1 (awY_next j).2 rfl rfl).mono ?_; rintro e w5 ⟨rfl, hM5, hB5, hK5⟩
          have HN := Lib.hid (HS.out.pick2 hM5 hB5 hK5)
          clear hM5 hB5 hK5
          go_wp2
          go_roundw
          case rel => exact ⟨j + 1, _, by omega, Nat.le_trans (ite_le _ _) (by omega), by go_num, HN.out⟩
          case measure => simp [intOf]; omega
        · obtain rfl : j = 9 := by omega
          go_wp2_with fail
          refine (number_yes _ _ 0 4 ⟨#[]⟩ 0 false true 5 _ HS.out.ba (by omega)).mono ?_; rintro e w6 ⟨rfl, rfl⟩
          go_wp2_with fail
          refine (number_no _ _ 0 5 ⟨#[]⟩ 0 true true 5 _ HS.out.bb).mono ?_; rintro e w7 ⟨rfl, rfl⟩
          go_wp2
          go_ret
          exact ⟨rfl, HS.out.kept⟩

end Go.Proofs.Ytjligbinelmhcaa
