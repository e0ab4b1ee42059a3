/-
  What Check of package record and of its reference answer for any chain. Condition: chains of at most 2^40 versions.
-/
import Derived.Test.YtmaadlkojcekgaaRecFns
import Derived.Test.YtmaadlkojcekgaaKeptRegion
import Derived.Deep.DeepCutAuto
import Derived.Deep.CutBlock
namespace Go.Proofs.Ytmaadlkojcekgaa
open Go.RowKit Go.Deep Plain
set_option linter.unusedVariables false

theorem bool_false {b : Bool} {p : Prop} (h : b = true ↔ p) (n : ¬ p) : b = false := by cases b; rfl; exact absurd (h.1 rfl) n
theorem bool_true {b : Bool} {p : Prop} (h : b = true ↔ p) (n : p) : b = true := h.2 n
theorem bool_ex (p : Prop) : ∃ b : Bool, b = true ↔ p := by
  by_cases h : p
  · exact ⟨true, by simp [h]⟩
  · exact ⟨false, by simp [h]⟩
/-- The first j versions are in order. -/
def UpTo (xs : List Ve) (j : Nat) : Prop := (∀ (i : Nat) (x : Ve), i < j → xs[i]? = some x → bad x = false) ∧ (∀ (i : Nat) (x y : Ve), i + 1 < j → xs[i]? = some x → xs[i + 1]? = some y → flw y x = true)
theorem UpTo.zero (xs : List Ve) : UpTo xs 0 := ⟨fun i x h => absurd h (Nat.not_lt_zero _), fun i x y h => absurd h (Nat.not_lt_zero _)⟩
theorem UpTo.all {xs : List Ve} {n : Nat} (h : UpTo xs n) (hn : xs.length = n) : ChkI xs :=
  ⟨fun i x hx => h.1 i x (by have := (List.getElem?_eq_some_iff.1 hx).1; omega) hx, fun i x y hx hy => h.2 i x y (by have := (List.getElem?_eq_some_iff.1 hy).1; omega) hx hy⟩
theorem UpTo.first {xs : List Ve} {x : Ve} (hx : xs[0]? = some x) (hb : bad x = false) : UpTo xs 1 :=
  ⟨fun i z hi hz => by obtain rfl : i = 0 := by omega
                       rw [hx] at hz; cases hz; exact hb, fun i _ _ hi => by omega⟩
theorem UpTo.next {xs : List Ve} {m : Nat} {x y : Ve} (h : UpTo xs (m + 1)) (hy : xs[m]? = some y) (hx : xs[m + 1]? = some x) (hb : bad x = false) (hf : flw x y = true) : UpTo xs (m + 1 + 1) :=
  ⟨fun i z hi hz => by
    by_cases he : i = m + 1
    · subst he; rw [hx] at hz; cases hz; exact hb
    · exact h.1 i z (by omega) hz, fun i a c hi ha hc => by
    by_cases he : i = m
    · subst he; rw [hy] at ha; rw [hx] at hc; cases ha; cases hc; exact hf
    · exact h.2 i a c (by omega) ha hc⟩
theorem kc {wq w9 : World} {p : Addr} {u : Value} (hk : Below wq.heap.size wq w9) (h : wq.cell? p = some u) : w9.cell? p = some u := (hk.cell (World.block_lt_of_cell? wq _ h)).trans h
theorem ka {w : World} {p : Addr} {u : Value} {o : Obj} (h : w.cell? p = some u) : (w.alloc o).drew.cell? p = some u := (((Below.refl w.heap.size w).alloc (Nat.le_refl _) o).cell (World.block_lt_of_cell? w _ h)).trans h
theorem empty_list {s : ByteArray} (h : s ≠ ⟨#[]⟩) : s.toList.isEmpty = false := by
  cases hx : s.toList.isEmpty
  · rfl
  · rw [List.isEmpty_iff] at hx
    have e : (⟨#[]⟩ : ByteArray).toList = [] := by rw [Lib.toList_data]
    have e2 := hx.trans e.symm
    rw [Lib.toList_data, Lib.toList_data] at e2
    obtain ⟨⟨s⟩⟩ := s
    simp only at e2
    subst e2; exact absurd rfl h


set_option maxRecDepth 100000 in
set_option maxHeartbeats 4000000 in
theorem check_any (A : Option Addr) (c : Nat) (xs : List Ve) (w : World) (n : Nat) (hn : xs.length = n) (h40 : n ≤ 1099511627776) (hR : Rv w A c xs) (b : Bool) (hb : b = true ↔ ChkI xs) :
    Calls Try.prog 15 #[.slice A n c] w fun e w' => e = .returned (.bool b) ∧ Below w.heap.size w w' := by
  have HBB := Lib.hid hb
  have HR := Lib.hid hR
  have HN := Lib.hid hn
  clear hb hR
  go_enter Try.func15, Try.ntmps15
  go_wp2_with fail
  go_loopw [7] (fun i wr => ∃ j : Nat, j ≤ n ∧ i = .int .i64 j ∧ UpTo xs j ∧ Below w.heap.size w wr) (fun i _ => n - (intOf i).toNat)
  case atStart => exact ⟨0, Nat.zero_le _, rfl, UpTo.zero _, Below.refl _ _⟩
  case round =>
    obtain ⟨j, hj, hi, hup, hbel⟩ := hrel
    have HU := Lib.hid hup
    have HL := Lib.hid hbel
    have hsz := hbel.size
    clear hup
    by_cases hlt : j < n
    · obtain ⟨⟨s, v, d⟩, hx⟩ : ∃ x, xs[j]? = some x := ⟨_, List.getElem?_eq_getElem (by omega)⟩
      obtain ⟨g, off, rfl, hg, hcell⟩ := (HR.out.below hbel (Nat.le_refl _)).at (by omega)
      obtain ⟨c0, c1, c2⟩ := hcell j _ hx
      have HX := Lib.hid hx
      by_cases hj0 : j = 0
      · subst hj0
        replace hi := (show _ = Value.int .i64 (0 : Int) from hi)
        subst hi
        simp only [Nat.zero_mul, Nat.add_zero] at c0 c1 c2
        clear hcell hx hbel
        cases d
        · have P0 := Blk.new wr [.int .u64 (s : Int), .string v, .bool false] 27
          have x0 := P0.cell (i := 0) rfl
          have x1 := P0.cell (i := 1) rfl
          have x2 := P0.cell (i := 2) rfl
          clear P0
          have HOK := Lib.hid (show bad (s, v, false) = false by rfl)
          go_upto_region 4 with fail
          refine qregion (fun w' => Below wr.heap.size wr w' ∧ w'.cell? ⟨wr.heap.size, 0, none⟩ = some (.int .u64 (s : Int)) ∧ w'.cell? ⟨wr.heap.size, 1, none⟩ = some (.string v) ∧ w'.cell? ⟨wr.heap.size, 2, none⟩ = some (.bool false)) (by kernel_rfl) (by kernel_rfl) ⟨((Below.refl wr.heap.size wr).alloc (Nat.le_refl _) _).drew, x0, x1, x2⟩ ?_
          refine qstep (o := ⟨some 12, _, _, _, _, _⟩) (v := ?_) (by rfl) (fun wq hSw => ?_) ?_
          rotate_left
          · (try dsimp only at hSw); go_simp; try with_reducible rfl
          try simp only [Act.put, List.setIfInBounds_toArray, List.set_cons_zero, List.set_cons_succ]
          refine qstep (o := ⟨some 13, _, _, _, _, _⟩) (v := .bool false) (by rfl) (fun wq hSw => ?_) ?_
          · (try dsimp only at hSw); go_simp; try first | (with_reducible rfl) | (simp; omega) | (intros; omega) | simp [*]
          try simp only [Act.put, List.setIfInBounds_toArray, List.set_cons_zero, List.set_cons_succ]
          refine qstep (o := ⟨some 14, _, _, _, _, _⟩) (v := .bool false) (by rfl) (fun wq hSw => ?_) ?_
          · (try dsimp only at hSw); go_simp; try first | (with_reducible rfl) | (simp; omega) | (intros; omega) | simp [*]
          try simp only [Act.put, List.setIfInBounds_toArray, List.set_cons_zero, List.set_cons_succ]
          go_big_quiet_skip
          try simp only [Act.put, List.setIfInBounds_toArray, List.set_cons_zero, List.set_cons_succ]
          go_big_quiet_skip
          try simp only [Act.put, List.setIfInBounds_toArray, List.set_cons_zero, List.set_cons_succ]
          go_big_quiet_skip
          try simp only [Act.put, List.setIfInBounds_toArray, List.set_cons_zero, List.set_cons_succ]
          refine qstep (o := ⟨some 18, _, _, _, _, _⟩) (v := .bool false) (by rfl) (fun wq hSw => ?_) ?_
          · (try dsimp only at hSw); go_simp; try first | (with_reducible rfl) | (simp; omega) | (intros; omega) | simp [*]
          try simp only [Act.put, List.setIfInBounds_toArray, List.set_cons_zero, List.set_cons_succ]
          refine qstep (o := ⟨some 19, _, _, _, _, _⟩) (v := .bool false) (by rfl) (fun wq hSw => ?_) ?_
          · (try dsimp only at hSw); go_simp; try first | (with_reducible rfl) | (simp; omega) | (intros; omega) | simp [*]
          try simp only [Act.put, List.setIfInBounds_toArray, List.set_cons_zero, List.set_cons_succ]
          refine qstep (o := ⟨some 20, _, _, _, _, _⟩) (v := ?_) (by rfl) (fun wq hSw => ?_) ?_
          rotate_left
          · (try dsimp only at hSw); go_simp; try with_reducible rfl
          try simp only [Act.put, List.setIfInBounds_toArray, List.set_cons_zero, List.set_cons_succ]
          refine qstep (o := ⟨some 21, _, _, _, _, _⟩) (v := .bool false) (by rfl) (fun wq hSw => ?_) ?_
          · (try dsimp only at hSw); go_simp; try first | (with_reducible rfl) | (simp; omega) | (intros; omega) | simp [*]
          try simp only [Act.put, List.setIfInBounds_toArray, List.set_cons_zero, List.set_cons_succ]
          refine qstep (o := ⟨some 22, _, _, _, _, _⟩) (v := .bool false) (by rfl) (fun wq hSw => ?_) ?_
          · (try dsimp only at hSw); go_simp; try first | (with_reducible rfl) | (simp; omega) | (intros; omega) | simp [*]
          try simp only [Act.put, List.setIfInBounds_toArray, List.set_cons_zero, List.set_cons_succ]
          go_big_quiet_skip
          try simp only [Act.put, List.setIfInBounds_toArray, List.set_cons_zero, List.set_cons_succ]
          go_big_quiet_skip
          try simp only [Act.put, List.setIfInBounds_toArray, List.set_cons_zero, List.set_cons_succ]
          go_big_quiet_skip
          try simp only [Act.put, List.setIfInBounds_toArray, List.set_cons_zero, List.set_cons_succ]
          go_big_quiet_skip
          try simp only [Act.put, List.setIfInBounds_toArray, List.set_cons_zero, List.set_cons_succ]
          go_big_quiet_skip
          try simp only [Act.put, List.setIfInBounds_toArray, List.set_cons_zero, List.set_cons_succ]
          go_big_quiet_skip
          try simp only [Act.put, List.setIfInBounds_toArray, List.set_cons_zero, List.set_cons_succ]
          go_big_quiet_skip
          try simp only [Act.put, List.setIfInBounds_toArray, List.set_cons_zero, List.set_cons_succ]
          go_big_quiet_skip
          try simp only [Act.put, List.setIfInBounds_toArray, List.set_cons_zero, List.set_cons_succ]
          refine qstep (o := ⟨some 31, _, _, _, _, _⟩) (v := ?_) (by rfl) (fun wq hSw => ?_) ?_
          rotate_left
          · (try dsimp only at hSw); go_simp; try with_reducible rfl
          try simp only [Act.put, List.setIfInBounds_toArray, List.set_cons_zero, List.set_cons_succ]
          refine qstep (o := ⟨some 32, _, _, _, _, _⟩) (v := ?_) (by rfl) (fun wq hSw => ?_) ?_
          rotate_left
          · (try dsimp only at hSw); go_simp; try with_reducible rfl
          try simp only [Act.put, List.setIfInBounds_toArray, List.set_cons_zero, List.set_cons_succ]
          refine wpQuiet_nil ?_
          intro wz hHeld
          obtain ⟨hB9, -⟩ := hHeld
          have HB9 := Lib.hid (HL.out.trans (hB9.mono hsz))
          clear hB9
          go_wp2
          go_roundw
          case rel => exact ⟨1, by omega, rfl, UpTo.first HX.out HOK.out, HB9.out⟩
          case measure => simp [intOf]; omega
        · cases he : v.toList.isEmpty
          · have P0 := Blk.new wr [.int .u64 (s : Int), .string v, .bool true] 27
            have x0 := P0.cell (i := 0) rfl
            have x1 := P0.cell (i := 1) rfl
            have x2 := P0.cell (i := 2) rfl
            clear P0
            have HBAD := Lib.hid (show bad (s, v, true) = true by unfold bad; rw [he]; rfl)
            obtain rfl := bool_false HBB.out (fun h => by have := h.1 0 _ HX.out; rw [HBAD.out] at this; cases this)
            go_upto_region 4 with fail
            refine qregion (fun w' => Below wr.heap.size wr w' ∧ w'.cell? ⟨wr.heap.size, 0, none⟩ = some (.int .u64 (s : Int)) ∧ w'.cell? ⟨wr.heap.size, 1, none⟩ = some (.string v) ∧ w'.cell? ⟨wr.heap.size, 2, none⟩ = some (.bool true)) (by kernel_rfl) (by kernel_rfl) ⟨((Below.refl wr.heap.size wr).alloc (Nat.le_refl _) _).drew, x0, x1, x2⟩ ?_
            refine qstep (o := ⟨some 12, _, _, _, _, _⟩) (v := ?_) (by rfl) (fun wq hSw => ?_) ?_
            rotate_left
            · (try dsimp only at hSw); go_simp; try with_reducible rfl
            try simp only [Act.put, List.setIfInBounds_toArray, List.set_cons_zero, List.set_cons_succ]
            refine qstep (o := ⟨some 13, _, _, _, _, _⟩) (v := .bool true) (by rfl) (fun wq hSw => ?_) ?_
            · (try dsimp only at hSw); go_simp; try first | (with_reducible rfl) | (simp; omega) | (intros; omega) | simp [*]
            try simp only [Act.put, List.setIfInBounds_toArray, List.set_cons_zero, List.set_cons_succ]
            refine qstep (o := ⟨some 14, _, _, _, _, _⟩) (v := .bool true) (by rfl) (fun wq hSw => ?_) ?_
            · (try dsimp only at hSw); go_simp; try first | (with_reducible rfl) | (simp; omega) | (intros; omega) | simp [*]
            try simp only [Act.put, List.setIfInBounds_toArray, List.set_cons_zero, List.set_cons_succ]
            refine qstep (o := ⟨some 15, _, _, _, _, _⟩) (v := ?_) (by rfl) (fun wq hSw => ?_) ?_
            rotate_left
            · (try dsimp only at hSw); go_simp; try with_reducible rfl
            try simp only [Act.put, List.setIfInBounds_toArray, List.set_cons_zero, List.set_cons_succ]
            refine qstep (o := ⟨some 16, _, _, _, _, _⟩) (v := ?_) (by rfl) (fun wq hSw => ?_) ?_
            rotate_left
            · (try dsimp only at hSw); go_simp; try with_reducible rfl
            try simp only [Act.put, List.setIfInBounds_toArray, List.set_cons_zero, List.set_cons_succ]
            refine qstep (o := ⟨some 17, _, _, _, _, _⟩) (v := .bool true) (by rfl) (fun wq hSw => ?_) ?_
            · (try dsimp only at hSw); go_simp; try first | (with_reducible rfl) | (simp; omega) | (intros; omega) | simp [*]
            try simp only [Act.put, List.setIfInBounds_toArray, List.set_cons_zero, List.set_cons_succ]
            refine qstep (o := ⟨some 18, _, _, _, _, _⟩) (v := .bool true) (by rfl) (fun wq hSw => ?_) ?_
            · (try dsimp only at hSw); go_simp; try first | (with_reducible rfl) | (simp; omega) | (intros; omega) | simp [*]
            try simp only [Act.put, List.setIfInBounds_toArray, List.set_cons_zero, List.set_cons_succ]
            refine qstep (o := ⟨some 19, _, _, _, _, _⟩) (v := .bool true) (by rfl) (fun wq hSw => ?_) ?_
            · (try dsimp only at hSw); go_simp; try first | (with_reducible rfl) | (simp; omega) | (intros; omega) | simp [*]
            try simp only [Act.put, List.setIfInBounds_toArray, List.set_cons_zero, List.set_cons_succ]
            go_big_quiet_skip
            try simp only [Act.put, List.setIfInBounds_toArray, List.set_cons_zero, List.set_cons_succ]
            go_big_quiet_skip
            try simp only [Act.put, List.setIfInBounds_toArray, List.set_cons_zero, List.set_cons_succ]
            go_big_quiet_skip
            try simp only [Act.put, List.setIfInBounds_toArray, List.set_cons_zero, List.set_cons_succ]
            go_big_quiet_skip
            try simp only [Act.put, List.setIfInBounds_toArray, List.set_cons_zero, List.set_cons_succ]
            go_big_quiet_skip
            try simp only [Act.put, List.setIfInBounds_toArray, List.set_cons_zero, List.set_cons_succ]
            go_big_quiet_skip
            try simp only [Act.put, List.setIfInBounds_toArray, List.set_cons_zero, List.set_cons_succ]
            go_big_quiet_skip
            try simp only [Act.put, List.setIfInBounds_toArray, List.set_cons_zero, List.set_cons_succ]
            go_big_quiet_skip
            try simp only [Act.put, List.setIfInBounds_toArray, List.set_cons_zero, List.set_cons_succ]
            go_big_quiet_skip
            try simp only [Act.put, List.setIfInBounds_toArray, List.set_cons_zero, List.set_cons_succ]
            go_big_quiet_skip
            try simp only [Act.put, List.setIfInBounds_toArray, List.set_cons_zero, List.set_cons_succ]
            go_big_quiet_skip
            try simp only [Act.put, List.setIfInBounds_toArray, List.set_cons_zero, List.set_cons_succ]
            go_big_quiet_skip
            try simp only [Act.put, List.setIfInBounds_toArray, List.set_cons_zero, List.set_cons_succ]
            refine qstep (o := ⟨some 32, _, _, _, _, _⟩) (v := ?_) (by rfl) (fun wq hSw => ?_) ?_
            rotate_left
            · (try dsimp only at hSw); go_simp; try with_reducible rfl
            try simp only [Act.put, List.setIfInBounds_toArray, List.set_cons_zero, List.set_cons_succ]
            refine wpQuiet_nil ?_
            intro wz hHeld
            obtain ⟨hB9, -⟩ := hHeld
            have HB9 := Lib.hid (HL.out.trans (hB9.mono hsz))
            clear hB9
            go_wp2
            go_ret
            exact ⟨rfl, HB9.out⟩
          · have P0 := Blk.new wr [.int .u64 (s : Int), .string v, .bool true] 27
            have x0 := P0.cell (i := 0) rfl
            have x1 := P0.cell (i := 1) rfl
            have x2 := P0.cell (i := 2) rfl
            clear P0
            have HOK := Lib.hid (show bad (s, v, true) = false by unfold bad; rw [he]; rfl)
            go_upto_region 4 with fail
            refine qregion (fun w' => Below wr.heap.size wr w' ∧ w'.cell? ⟨wr.heap.size, 0, none⟩ = some (.int .u64 (s : Int)) ∧ w'.cell? ⟨wr.heap.size, 1, none⟩ = some (.string v) ∧ w'.cell? ⟨wr.heap.size, 2, none⟩ = some (.bool true)) (by kernel_rfl) (by kernel_rfl) ⟨((Below.refl wr.heap.size wr).alloc (Nat.le_refl _) _).drew, x0, x1, x2⟩ ?_
            refine qstep (o := ⟨some 12, _, _, _, _, _⟩) (v := ?_) (by rfl) (fun wq hSw => ?_) ?_
            rotate_left
            · (try dsimp only at hSw); go_simp; try with_reducible rfl
            try simp only [Act.put, List.setIfInBounds_toArray, List.set_cons_zero, List.set_cons_succ]
            refine qstep (o := ⟨some 13, _, _, _, _, _⟩) (v := .bool true) (by rfl) (fun wq hSw => ?_) ?_
            · (try dsimp only at hSw); go_simp; try first | (with_reducible rfl) | (simp; omega) | (intros; omega) | simp [*]
            try simp only [Act.put, List.setIfInBounds_toArray, List.set_cons_zero, List.set_cons_succ]
            refine qstep (o := ⟨some 14, _, _, _, _, _⟩) (v := .bool true) (by rfl) (fun wq hSw => ?_) ?_
            · (try dsimp only at hSw); go_simp; try first | (with_reducible rfl) | (simp; omega) | (intros; omega) | simp [*]
            try simp only [Act.put, List.setIfInBounds_toArray, List.set_cons_zero, List.set_cons_succ]
            refine qstep (o := ⟨some 15, _, _, _, _, _⟩) (v := ?_) (by rfl) (fun wq hSw => ?_) ?_
            rotate_left
            · (try dsimp only at hSw); go_simp; try with_reducible rfl
            try simp only [Act.put, List.setIfInBounds_toArray, List.set_cons_zero, List.set_cons_succ]
            refine qstep (o := ⟨some 16, _, _, _, _, _⟩) (v := ?_) (by rfl) (fun wq hSw => ?_) ?_
            rotate_left
            · (try dsimp only at hSw); go_simp; try with_reducible rfl
            try simp only [Act.put, List.setIfInBounds_toArray, List.set_cons_zero, List.set_cons_succ]
            refine qstep (o := ⟨some 17, _, _, _, _, _⟩) (v := .bool false) (by rfl) (fun wq hSw => ?_) ?_
            · (try dsimp only at hSw); go_simp; try first | (with_reducible rfl) | (simp; omega) | (intros; omega) | simp [*]
            try simp only [Act.put, List.setIfInBounds_toArray, List.set_cons_zero, List.set_cons_succ]
            refine qstep (o := ⟨some 18, _, _, _, _, _⟩) (v := .bool false) (by rfl) (fun wq hSw => ?_) ?_
            · (try dsimp only at hSw); go_simp; try first | (with_reducible rfl) | (simp; omega) | (intros; omega) | simp [*]
            try simp only [Act.put, List.setIfInBounds_toArray, List.set_cons_zero, List.set_cons_succ]
            refine qstep (o := ⟨some 19, _, _, _, _, _⟩) (v := .bool false) (by rfl) (fun wq hSw => ?_) ?_
            · (try dsimp only at hSw); go_simp; try first | (with_reducible rfl) | (simp; omega) | (intros; omega) | simp [*]
            try simp only [Act.put, List.setIfInBounds_toArray, List.set_cons_zero, List.set_cons_succ]
            refine qstep (o := ⟨some 20, _, _, _, _, _⟩) (v := ?_) (by rfl) (fun wq hSw => ?_) ?_
            rotate_left
            · (try dsimp only at hSw); go_simp; try with_reducible rfl
            try simp only [Act.put, List.setIfInBounds_toArray, List.set_cons_zero, List.set_cons_succ]
            refine qstep (o := ⟨some 21, _, _, _, _, _⟩) (v := .bool false) (by rfl) (fun wq hSw => ?_) ?_
            · (try dsimp only at hSw); go_simp; try first | (with_reducible rfl) | (simp; omega) | (intros; omega) | simp [*]
            try simp only [Act.put, List.setIfInBounds_toArray, List.set_cons_zero, List.set_cons_succ]
            refine qstep (o := ⟨some 22, _, _, _, _, _⟩) (v := .bool false) (by rfl) (fun wq hSw => ?_) ?_
            · (try dsimp only at hSw); go_simp; try first | (with_reducible rfl) | (simp; omega) | (intros; omega) | simp [*]
            try simp only [Act.put, List.setIfInBounds_toArray, List.set_cons_zero, List.set_cons_succ]
            go_big_quiet_skip
            try simp only [Act.put, List.setIfInBounds_toArray, List.set_cons_zero, List.set_cons_succ]
            go_big_quiet_skip
            try simp only [Act.put, List.setIfInBounds_toArray, List.set_cons_zero, List.set_cons_succ]
            go_big_quiet_skip
            try simp only [Act.put, List.setIfInBounds_toArray, List.set_cons_zero, List.set_cons_succ]
            go_big_quiet_skip
            try simp only [Act.put, List.setIfInBounds_toArray, List.set_cons_zero, List.set_cons_succ]
            go_big_quiet_skip
            try simp only [Act.put, List.setIfInBounds_toArray, List.set_cons_zero, List.set_cons_succ]
            go_big_quiet_skip
            try simp only [Act.put, List.setIfInBounds_toArray, List.set_cons_zero, List.set_cons_succ]
            go_big_quiet_skip
            try simp only [Act.put, List.setIfInBounds_toArray, List.set_cons_zero, List.set_cons_succ]
            go_big_quiet_skip
            try simp only [Act.put, List.setIfInBounds_toArray, List.set_cons_zero, List.set_cons_succ]
            refine qstep (o := ⟨some 31, _, _, _, _, _⟩) (v := ?_) (by rfl) (fun wq hSw => ?_) ?_
            rotate_left
            · (try dsimp only at hSw); go_simp; try with_reducible rfl
            try simp only [Act.put, List.setIfInBounds_toArray, List.set_cons_zero, List.set_cons_succ]
            refine qstep (o := ⟨some 32, _, _, _, _, _⟩) (v := ?_) (by rfl) (fun wq hSw => ?_) ?_
            rotate_left
            · (try dsimp only at hSw); go_simp; try with_reducible rfl
            try simp only [Act.put, List.setIfInBounds_toArray, List.set_cons_zero, List.set_cons_succ]
            refine wpQuiet_nil ?_
            intro wz hHeld
            obtain ⟨hB9, -⟩ := hHeld
            have HB9 := Lib.hid (HL.out.trans (hB9.mono hsz))
            clear hB9
            go_wp2
            go_roundw
            case rel => exact ⟨1, by omega, rfl, UpTo.first HX.out HOK.out, HB9.out⟩
            case measure => simp [intOf]; omega
      · obtain ⟨m, rfl⟩ : ∃ m, j = m + 1 := ⟨j - 1, by omega⟩
        subst hi
        obtain ⟨y, hy⟩ : ∃ y, xs[m]? = some y := ⟨_, List.getElem?_eq_getElem (by omega)⟩
        obtain ⟨d0, d1, d2⟩ := hcell m _ hy
        have HY := Lib.hid hy
        have hwm : IntKind.i64.wrap (m : Int) = (m : Int) := by rw [IntKind.wrap_i64]; omega
        have hmn : (m : Int) < (n : Int) := by omega
        have hjj : decide ((0 : Int) < (m : Int) + 1) = true := decide_eq_true (by omega)
        clear hcell hx hy hbel hj0
        cases d
        · have P0 := Blk.new wr [.int .u64 (s : Int), .string v, .bool false] 27
          have x0 := P0.cell (i := 0) rfl
          have x1 := P0.cell (i := 1) rfl
          have x2 := P0.cell (i := 2) rfl
          clear P0
          have HOK := Lib.hid (show bad (s, v, false) = false by rfl)
          obtain ⟨fb, hfb⟩ : ∃ fb, flw (s, v, false) y = fb := ⟨_, rfl⟩
          have HF := Lib.hid hfb
          clear hfb
          go_upto_region 4 with fail
          refine qregion (fun w' => Below wr.heap.size wr w' ∧ w'.cell? ⟨wr.heap.size, 0, none⟩ = some (.int .u64 (s : Int)) ∧ w'.cell? ⟨wr.heap.size, 1, none⟩ = some (.string v) ∧ w'.cell? ⟨wr.heap.size, 2, none⟩ = some (.bool false) ∧ w'.cell? ⟨g, off + m * 3, none⟩ = some (.int .u64 (y.1 : Int)) ∧ w'.cell? ⟨g, off + m * 3 + 1, none⟩ = some (.string y.2.1) ∧ w'.cell? ⟨g, off + m * 3 + 2, none⟩ = some (.bool y.2.2)) (by kernel_rfl) (by kernel_rfl) ⟨((Below.refl wr.heap.size wr).alloc (Nat.le_refl _) _).drew, x0, x1, x2, (ka d0), (ka d1), (ka d2)⟩ ?_
          refine qstep (o := ⟨some 12, _, _, _, _, _⟩) (v := ?_) (by rfl) (fun wq hSw => ?_) ?_
          rotate_left
          · (try dsimp only at hSw); go_simp; try with_reducible rfl
          try simp only [Act.put, List.setIfInBounds_toArray, List.set_cons_zero, List.set_cons_succ]
          refine qstep (o := ⟨some 13, _, _, _, _, _⟩) (v := .bool false) (by rfl) (fun wq hSw => ?_) ?_
          · (try dsimp only at hSw); go_simp; try first | (with_reducible rfl) | (simp; omega) | (intros; omega) | simp [*]
          try simp only [Act.put, List.setIfInBounds_toArray, List.set_cons_zero, List.set_cons_succ]
          refine qstep (o := ⟨some 14, _, _, _, _, _⟩) (v := .bool false) (by rfl) (fun wq hSw => ?_) ?_
          · (try dsimp only at hSw); go_simp; try first | (with_reducible rfl) | (simp; omega) | (intros; omega) | simp [*]
          try simp only [Act.put, List.setIfInBounds_toArray, List.set_cons_zero, List.set_cons_succ]
          go_big_quiet_skip
          try simp only [Act.put, List.setIfInBounds_toArray, List.set_cons_zero, List.set_cons_succ]
          go_big_quiet_skip
          try simp only [Act.put, List.setIfInBounds_toArray, List.set_cons_zero, List.set_cons_succ]
          go_big_quiet_skip
          try simp only [Act.put, List.setIfInBounds_toArray, List.set_cons_zero, List.set_cons_succ]
          refine qstep (o := ⟨some 18, _, _, _, _, _⟩) (v := .bool false) (by rfl) (fun wq hSw => ?_) ?_
          · (try dsimp only at hSw); go_simp; try first | (with_reducible rfl) | (simp; omega) | (intros; omega) | simp [*]
          try simp only [Act.put, List.setIfInBounds_toArray, List.set_cons_zero, List.set_cons_succ]
          refine qstep (o := ⟨some 19, _, _, _, _, _⟩) (v := .bool false) (by rfl) (fun wq hSw => ?_) ?_
          · (try dsimp only at hSw); go_simp; try first | (with_reducible rfl) | (simp; omega) | (intros; omega) | simp [*]
          try simp only [Act.put, List.setIfInBounds_toArray, List.set_cons_zero, List.set_cons_succ]
          refine qstep (o := ⟨some 20, _, _, _, _, _⟩) (v := ?_) (by rfl) (fun wq hSw => ?_) ?_
          rotate_left
          · (try dsimp only at hSw); go_simp; try with_reducible rfl
          try simp only [Act.put, List.setIfInBounds_toArray, List.set_cons_zero, List.set_cons_succ]
          refine qstep (o := ⟨some 21, _, _, _, _, _⟩) (v := .bool true) (by rfl) (fun wq hSw => ?_) ?_
          · (try dsimp only at hSw); go_simp; try first | (with_reducible rfl) | (simp; omega) | (intros; omega) | simp [*]
          try simp only [Act.put, List.setIfInBounds_toArray, List.set_cons_zero, List.set_cons_succ]
          refine qstep (o := ⟨some 22, _, _, _, _, _⟩) (v := .bool true) (by rfl) (fun wq hSw => ?_) ?_
          · (try dsimp only at hSw); go_simp; try first | (with_reducible rfl) | (simp; omega) | (intros; omega) | simp [*]
          try simp only [Act.put, List.setIfInBounds_toArray, List.set_cons_zero, List.set_cons_succ]
          refine qstep (o := ⟨some 23, _, _, _, _, _⟩) (v := ?_) (by rfl) (fun wq hSw => ?_) ?_
          rotate_left
          · (try dsimp only at hSw); go_simp; try with_reducible rfl
          try simp only [Act.put, List.setIfInBounds_toArray, List.set_cons_zero, List.set_cons_succ]
          refine qstep (o := ⟨some 24, _, _, _, _, _⟩) (v := ?_) (by rfl) (fun wq hSw => ?_) ?_
          rotate_left
          · (try dsimp only at hSw); go_simp; try with_reducible rfl
          try simp only [Act.put, List.setIfInBounds_toArray, List.set_cons_zero, List.set_cons_succ]
          refine qstep (o := ⟨some 25, _, _, _, _, _⟩) (v := ?_) (by rfl) (fun wq hSw => ?_) ?_
          rotate_left
          · (try dsimp only at hSw); go_simp; try with_reducible rfl
          try simp only [Act.put, List.setIfInBounds_toArray, List.set_cons_zero, List.set_cons_succ]
          refine qstep (o := ⟨some 26, _, _, _, _, _⟩) (v := .int .i64 (m : Int)) (by rfl) (fun wq hSw => ?_) ?_
          · (try dsimp only at hSw); go_simp; try first | (with_reducible rfl) | (simp; omega) | (intros; omega) | simp [*]
          try simp only [Act.put, List.setIfInBounds_toArray, List.set_cons_zero, List.set_cons_succ]
          refine qstep (o := ⟨some 27, _, _, _, _, _⟩) (v := .pointer (some ⟨g, off + m * 3, none⟩)) (by rfl) (fun wq hSw => ?_) ?_
          · (try dsimp only at hSw); go_simp; try first | (with_reducible rfl) | (simp; omega) | (intros; omega) | simp [*]
          try simp only [Act.put, List.setIfInBounds_toArray, List.set_cons_zero, List.set_cons_succ]
          refine qstep (o := ⟨some 28, _, _, _, _, _⟩) (v := ?_) (by rfl) (fun wq hSw => ?_) ?_
          rotate_left
          · (try dsimp only at hSw); go_simp; try with_reducible rfl
          try simp only [Act.put, List.setIfInBounds_toArray, List.set_cons_zero, List.set_cons_succ]
          refine qcall (o := ⟨some 29, _, _, _, _, _⟩) (v := .bool fb) (by rfl) (fun wq hSw => ?_) (fun wq hSw => Calls.mono (follows_any (s, v, false) y fb HF.out _) ?_) ?_
          · (try dsimp only at hSw); go_simp; try with_reducible rfl
          · rintro e w9 ⟨rfl, hk⟩; exact ⟨rfl, ⟨hSw.1.trans (hk.mono hSw.1.size), kc hk (hSw.2.1), kc hk (hSw.2.2.1), kc hk (hSw.2.2.2.1), kc hk (hSw.2.2.2.2.1), kc hk (hSw.2.2.2.2.2.1), kc hk (hSw.2.2.2.2.2.2)⟩⟩
          try simp only [Act.put, List.setIfInBounds_toArray, List.set_cons_zero, List.set_cons_succ]
          refine qstep (o := ⟨some 30, _, _, _, _, _⟩) (v := ?_) (by rfl) (fun wq hSw => ?_) ?_
          rotate_left
          · (try dsimp only at hSw); go_simp; try with_reducible rfl
          try simp only [Act.put, List.setIfInBounds_toArray, List.set_cons_zero, List.set_cons_succ]
          refine qstep (o := ⟨some 31, _, _, _, _, _⟩) (v := ?_) (by rfl) (fun wq hSw => ?_) ?_
          rotate_left
          · (try dsimp only at hSw); go_simp; try with_reducible rfl
          try simp only [Act.put, List.setIfInBounds_toArray, List.set_cons_zero, List.set_cons_succ]
          refine qstep (o := ⟨some 32, _, _, _, _, _⟩) (v := ?_) (by rfl) (fun wq hSw => ?_) ?_
          rotate_left
          · (try dsimp only at hSw); go_simp; try with_reducible rfl
          try simp only [Act.put, List.setIfInBounds_toArray, List.set_cons_zero, List.set_cons_succ]
          refine wpQuiet_nil ?_
          intro wz hHeld
          obtain ⟨hB9, -⟩ := hHeld
          have HB9 := Lib.hid (HL.out.trans (hB9.mono hsz))
          clear hB9
          cases fb
          · obtain rfl := bool_false HBB.out (fun h => by have := h.2 m _ _ HY.out HX.out; rw [HF.out] at this; cases this)
            go_wp2
            go_ret
            exact ⟨rfl, HB9.out⟩
          · have HU2 := Lib.hid (UpTo.next HU.out HY.out HX.out HOK.out HF.out)
            go_wp2
            go_roundw
            case rel => exact ⟨m + 1 + 1, by omega, by go_num, HU2.out, HB9.out⟩
            case measure => simp [intOf]; omega
        · cases he : v.toList.isEmpty
          · have P0 := Blk.new wr [.int .u64 (s : Int), .string v, .bool true] 27
            have x0 := P0.cell (i := 0) rfl
            have x1 := P0.cell (i := 1) rfl
            have x2 := P0.cell (i := 2) rfl
            clear P0
            have HBAD := Lib.hid (show bad (s, v, true) = true by unfold bad; rw [he]; rfl)
            obtain rfl := bool_false HBB.out (fun h => by have := h.1 (m + 1) _ HX.out; rw [HBAD.out] at this; cases this)
            go_upto_region 4 with fail
            refine qregion (fun w' => Below wr.heap.size wr w' ∧ w'.cell? ⟨wr.heap.size, 0, none⟩ = some (.int .u64 (s : Int)) ∧ w'.cell? ⟨wr.heap.size, 1, none⟩ = some (.string v) ∧ w'.cell? ⟨wr.heap.size, 2, none⟩ = some (.bool true)) (by kernel_rfl) (by kernel_rfl) ⟨((Below.refl wr.heap.size wr).alloc (Nat.le_refl _) _).drew, x0, x1, x2⟩ ?_
            refine qstep (o := ⟨some 12, _, _, _, _, _⟩) (v := ?_) (by rfl) (fun wq hSw => ?_) ?_
            rotate_left
            · (try dsimp only at hSw); go_simp; try with_reducible rfl
            try simp only [Act.put, List.setIfInBounds_toArray, List.set_cons_zero, List.set_cons_succ]
            refine qstep (o := ⟨some 13, _, _, _, _, _⟩) (v := .bool true) (by rfl) (fun wq hSw => ?_) ?_
            · (try dsimp only at hSw); go_simp; try first | (with_reducible rfl) | (simp; omega) | (intros; omega) | simp [*]
            try simp only [Act.put, List.setIfInBounds_toArray, List.set_cons_zero, List.set_cons_succ]
            refine qstep (o := ⟨some 14, _, _, _, _, _⟩) (v := .bool true) (by rfl) (fun wq hSw => ?_) ?_
            · (try dsimp only at hSw); go_simp; try first | (with_reducible rfl) | (simp; omega) | (intros; omega) | simp [*]
            try simp only [Act.put, List.setIfInBounds_toArray, List.set_cons_zero, List.set_cons_succ]
            refine qstep (o := ⟨some 15, _, _, _, _, _⟩) (v := ?_) (by rfl) (fun wq hSw => ?_) ?_
            rotate_left
            · (try dsimp only at hSw); go_simp; try with_reducible rfl
            try simp only [Act.put, List.setIfInBounds_toArray, List.set_cons_zero, List.set_cons_succ]
            refine qstep (o := ⟨some 16, _, _, _, _, _⟩) (v := ?_) (by rfl) (fun wq hSw => ?_) ?_
            rotate_left
            · (try dsimp only at hSw); go_simp; try with_reducible rfl
            try simp only [Act.put, List.setIfInBounds_toArray, List.set_cons_zero, List.set_cons_succ]
            refine qstep (o := ⟨some 17, _, _, _, _, _⟩) (v := .bool true) (by rfl) (fun wq hSw => ?_) ?_
            · (try dsimp only at hSw); go_simp; try first | (with_reducible rfl) | (simp; omega) | (intros; omega) | simp [*]
            try simp only [Act.put, List.setIfInBounds_toArray, List.set_cons_zero, List.set_cons_succ]
            refine qstep (o := ⟨some 18, _, _, _, _, _⟩) (v := .bool true) (by rfl) (fun wq hSw => ?_) ?_
            · (try dsimp only at hSw); go_simp; try first | (with_reducible rfl) | (simp; omega) | (intros; omega) | simp [*]
            try simp only [Act.put, List.setIfInBounds_toArray, List.set_cons_zero, List.set_cons_succ]
            refine qstep (o := ⟨some 19, _, _, _, _, _⟩) (v := .bool true) (by rfl) (fun wq hSw => ?_) ?_
            · (try dsimp only at hSw); go_simp; try first | (with_reducible rfl) | (simp; omega) | (intros; omega) | simp [*]
            try simp only [Act.put, List.setIfInBounds_toArray, List.set_cons_zero, List.set_cons_succ]
            go_big_quiet_skip
            try simp only [Act.put, List.setIfInBounds_toArray, List.set_cons_zero, List.set_cons_succ]
            go_big_quiet_skip
            try simp only [Act.put, List.setIfInBounds_toArray, List.set_cons_zero, List.set_cons_succ]
            go_big_quiet_skip
            try simp only [Act.put, List.setIfInBounds_toArray, List.set_cons_zero, List.set_cons_succ]
            go_big_quiet_skip
            try simp only [Act.put, List.setIfInBounds_toArray, List.set_cons_zero, List.set_cons_succ]
            go_big_quiet_skip
            try simp only [Act.put, List.setIfInBounds_toArray, List.set_cons_zero, List.set_cons_succ]
            go_big_quiet_skip
            try simp only [Act.put, List.setIfInBounds_toArray, List.set_cons_zero, List.set_cons_succ]
            go_big_quiet_skip
            try simp only [Act.put, List.setIfInBounds_toArray, List.set_cons_zero, List.set_cons_succ]
            go_big_quiet_skip
            try simp only [Act.put, List.setIfInBounds_toArray, List.set_cons_zero, List.set_cons_succ]
            go_big_quiet_skip
            try simp only [Act.put, List.setIfInBounds_toArray, List.set_cons_zero, List.set_cons_succ]
            go_big_quiet_skip
            try simp only [Act.put, List.setIfInBounds_toArray, List.set_cons_zero, List.set_cons_succ]
            go_big_quiet_skip
            try simp only [Act.put, List.setIfInBounds_toArray, List.set_cons_zero, List.set_cons_succ]
            go_big_quiet_skip
            try simp only [Act.put, List.setIfInBounds_toArray, List.set_cons_zero, List.set_cons_succ]
            refine qstep (o := ⟨some 32, _, _, _, _, _⟩) (v := ?_) (by rfl) (fun wq hSw => ?_) ?_
            rotate_left
            · (try dsimp only at hSw); go_simp; try with_reducible rfl
            try simp only [Act.put, List.setIfInBounds_toArray, List.set_cons_zero, List.set_cons_succ]
            refine wpQuiet_nil ?_
            intro wz hHeld
            obtain ⟨hB9, -⟩ := hHeld
            have HB9 := Lib.hid (HL.out.trans (hB9.mono hsz))
            clear hB9
            go_wp2
            go_ret
            exact ⟨rfl, HB9.out⟩
          · have P0 := Blk.new wr [.int .u64 (s : Int), .string v, .bool true] 27
            have x0 := P0.cell (i := 0) rfl
            have x1 := P0.cell (i := 1) rfl
            have x2 := P0.cell (i := 2) rfl
            clear P0
            have HOK := Lib.hid (show bad (s, v, true) = false by unfold bad; rw [he]; rfl)
            obtain ⟨fb, hfb⟩ : ∃ fb, flw (s, v, true) y = fb := ⟨_, rfl⟩
            have HF := Lib.hid hfb
            clear hfb
            go_upto_region 4 with fail
            refine qregion (fun w' => Below wr.heap.size wr w' ∧ w'.cell? ⟨wr.heap.size, 0, none⟩ = some (.int .u64 (s : Int)) ∧ w'.cell? ⟨wr.heap.size, 1, none⟩ = some (.string v) ∧ w'.cell? ⟨wr.heap.size, 2, none⟩ = some (.bool true) ∧ w'.cell? ⟨g, off + m * 3, none⟩ = some (.int .u64 (y.1 : Int)) ∧ w'.cell? ⟨g, off + m * 3 + 1, none⟩ = some (.string y.2.1) ∧ w'.cell? ⟨g, off + m * 3 + 2, none⟩ = some (.bool y.2.2)) (by kernel_rfl) (by kernel_rfl) ⟨((Below.refl wr.heap.size wr).alloc (Nat.le_refl _) _).drew, x0, x1, x2, (ka d0), (ka d1), (ka d2)⟩ ?_
            refine qstep (o := ⟨some 12, _, _, _, _, _⟩) (v := ?_) (by rfl) (fun wq hSw => ?_) ?_
            rotate_left
            · (try dsimp only at hSw); go_simp; try with_reducible rfl
            try simp only [Act.put, List.setIfInBounds_toArray, List.set_cons_zero, List.set_cons_succ]
            refine qstep (o := ⟨some 13, _, _, _, _, _⟩) (v := .bool true) (by rfl) (fun wq hSw => ?_) ?_
            · (try dsimp only at hSw); go_simp; try first | (with_reducible rfl) | (simp; omega) | (intros; omega) | simp [*]
            try simp only [Act.put, List.setIfInBounds_toArray, List.set_cons_zero, List.set_cons_succ]
            refine qstep (o := ⟨some 14, _, _, _, _, _⟩) (v := .bool true) (by rfl) (fun wq hSw => ?_) ?_
            · (try dsimp only at hSw); go_simp; try first | (with_reducible rfl) | (simp; omega) | (intros; omega) | simp [*]
            try simp only [Act.put, List.setIfInBounds_toArray, List.set_cons_zero, List.set_cons_succ]
            refine qstep (o := ⟨some 15, _, _, _, _, _⟩) (v := ?_) (by rfl) (fun wq hSw => ?_) ?_
            rotate_left
            · (try dsimp only at hSw); go_simp; try with_reducible rfl
            try simp only [Act.put, List.setIfInBounds_toArray, List.set_cons_zero, List.set_cons_succ]
            refine qstep (o := ⟨some 16, _, _, _, _, _⟩) (v := ?_) (by rfl) (fun wq hSw => ?_) ?_
            rotate_left
            · (try dsimp only at hSw); go_simp; try with_reducible rfl
            try simp only [Act.put, List.setIfInBounds_toArray, List.set_cons_zero, List.set_cons_succ]
            refine qstep (o := ⟨some 17, _, _, _, _, _⟩) (v := .bool false) (by rfl) (fun wq hSw => ?_) ?_
            · (try dsimp only at hSw); go_simp; try first | (with_reducible rfl) | (simp; omega) | (intros; omega) | simp [*]
            try simp only [Act.put, List.setIfInBounds_toArray, List.set_cons_zero, List.set_cons_succ]
            refine qstep (o := ⟨some 18, _, _, _, _, _⟩) (v := .bool false) (by rfl) (fun wq hSw => ?_) ?_
            · (try dsimp only at hSw); go_simp; try first | (with_reducible rfl) | (simp; omega) | (intros; omega) | simp [*]
            try simp only [Act.put, List.setIfInBounds_toArray, List.set_cons_zero, List.set_cons_succ]
            refine qstep (o := ⟨some 19, _, _, _, _, _⟩) (v := .bool false) (by rfl) (fun wq hSw => ?_) ?_
            · (try dsimp only at hSw); go_simp; try first | (with_reducible rfl) | (simp; omega) | (intros; omega) | simp [*]
            try simp only [Act.put, List.setIfInBounds_toArray, List.set_cons_zero, List.set_cons_succ]
            refine qstep (o := ⟨some 20, _, _, _, _, _⟩) (v := ?_) (by rfl) (fun wq hSw => ?_) ?_
            rotate_left
            · (try dsimp only at hSw); go_simp; try with_reducible rfl
            try simp only [Act.put, List.setIfInBounds_toArray, List.set_cons_zero, List.set_cons_succ]
            refine qstep (o := ⟨some 21, _, _, _, _, _⟩) (v := .bool true) (by rfl) (fun wq hSw => ?_) ?_
            · (try dsimp only at hSw); go_simp; try first | (with_reducible rfl) | (simp; omega) | (intros; omega) | simp [*]
            try simp only [Act.put, List.setIfInBounds_toArray, List.set_cons_zero, List.set_cons_succ]
            refine qstep (o := ⟨some 22, _, _, _, _, _⟩) (v := .bool true) (by rfl) (fun wq hSw => ?_) ?_
            · (try dsimp only at hSw); go_simp; try first | (with_reducible rfl) | (simp; omega) | (intros; omega) | simp [*]
            try simp only [Act.put, List.setIfInBounds_toArray, List.set_cons_zero, List.set_cons_succ]
            refine qstep (o := ⟨some 23, _, _, _, _, _⟩) (v := ?_) (by rfl) (fun wq hSw => ?_) ?_
            rotate_left
            · (try dsimp only at hSw); go_simp; try with_reducible rfl
            try simp only [Act.put, List.setIfInBounds_toArray, List.set_cons_zero, List.set_cons_succ]
            refine qstep (o := ⟨some 24, _, _, _, _, _⟩) (v := ?_) (by rfl) (fun wq hSw => ?_) ?_
            rotate_left
            · (try dsimp only at hSw); go_simp; try with_reducible rfl
            try simp only [Act.put, List.setIfInBounds_toArray, List.set_cons_zero, List.set_cons_succ]
            refine qstep (o := ⟨some 25, _, _, _, _, _⟩) (v := ?_) (by rfl) (fun wq hSw => ?_) ?_
            rotate_left
            · (try dsimp only at hSw); go_simp; try with_reducible rfl
            try simp only [Act.put, List.setIfInBounds_toArray, List.set_cons_zero, List.set_cons_succ]
            refine qstep (o := ⟨some 26, _, _, _, _, _⟩) (v := .int .i64 (m : Int)) (by rfl) (fun wq hSw => ?_) ?_
            · (try dsimp only at hSw); go_simp; try first | (with_reducible rfl) | (simp; omega) | (intros; omega) | simp [*]
            try simp only [Act.put, List.setIfInBounds_toArray, List.set_cons_zero, List.set_cons_succ]
            refine qstep (o := ⟨some 27, _, _, _, _, _⟩) (v := .pointer (some ⟨g, off + m * 3, none⟩)) (by rfl) (fun wq hSw => ?_) ?_
            · (try dsimp only at hSw); go_simp; try first | (with_reducible rfl) | (simp; omega) | (intros; omega) | simp [*]
            try simp only [Act.put, List.setIfInBounds_toArray, List.set_cons_zero, List.set_cons_succ]
            refine qstep (o := ⟨some 28, _, _, _, _, _⟩) (v := ?_) (by rfl) (fun wq hSw => ?_) ?_
            rotate_left
            · (try dsimp only at hSw); go_simp; try with_reducible rfl
            try simp only [Act.put, List.setIfInBounds_toArray, List.set_cons_zero, List.set_cons_succ]
            refine qcall (o := ⟨some 29, _, _, _, _, _⟩) (v := .bool fb) (by rfl) (fun wq hSw => ?_) (fun wq hSw => Calls.mono (follows_any (s, v, true) y fb HF.out _) ?_) ?_
            · (try dsimp only at hSw); go_simp; try with_reducible rfl
            · rintro e w9 ⟨rfl, hk⟩; exact ⟨rfl, ⟨hSw.1.trans (hk.mono hSw.1.size), kc hk (hSw.2.1), kc hk (hSw.2.2.1), kc hk (hSw.2.2.2.1), kc hk (hSw.2.2.2.2.1), kc hk (hSw.2.2.2.2.2.1), kc hk (hSw.2.2.2.2.2.2)⟩⟩
            try simp only [Act.put, List.setIfInBounds_toArray, List.set_cons_zero, List.set_cons_succ]
            refine qstep (o := ⟨some 30, _, _, _, _, _⟩) (v := ?_) (by rfl) (fun wq hSw => ?_) ?_
            rotate_left
            · (try dsimp only at hSw); go_simp; try with_reducible rfl
            try simp only [Act.put, List.setIfInBounds_toArray, List.set_cons_zero, List.set_cons_succ]
            refine qstep (o := ⟨some 31, _, _, _, _, _⟩) (v := ?_) (by rfl) (fun wq hSw => ?_) ?_
            rotate_left
            · (try dsimp only at hSw); go_simp; try with_reducible rfl
            try simp only [Act.put, List.setIfInBounds_toArray, List.set_cons_zero, List.set_cons_succ]
            refine qstep (o := ⟨some 32, _, _, _, _, _⟩) (v := ?_) (by rfl) (fun wq hSw => ?_) ?_
            rotate_left
            · (try dsimp only at hSw); go_simp; try with_reducible rfl
            try simp only [Act.put, List.setIfInBounds_toArray, List.set_cons_zero, List.set_cons_succ]
            refine wpQuiet_nil ?_
            intro wz hHeld
            obtain ⟨hB9, -⟩ := hHeld
            have HB9 := Lib.hid (HL.out.trans (hB9.mono hsz))
            clear hB9
            cases fb
            · obtain rfl := bool_false HBB.out (fun h => by have := h.2 m _ _ HY.out HX.out; rw [HF.out] at this; cases this)
              go_wp2
              go_ret
              exact ⟨rfl, HB9.out⟩
            · have HU2 := Lib.hid (UpTo.next HU.out HY.out HX.out HOK.out HF.out)
              go_wp2
              go_roundw
              case rel => exact ⟨m + 1 + 1, by omega, by go_num, HU2.out, HB9.out⟩
              case measure => simp [intOf]; omega
    · subst hi
      obtain rfl : j = n := by omega
      obtain rfl := bool_true HBB.out (HU.out.all HN.out)
      go_wp2
      go_ret
      exact ⟨rfl, hbel⟩

set_option maxRecDepth 100000 in
set_option maxHeartbeats 4000000 in
theorem refCheck_any (A : Option Addr) (c : Nat) (xs : List Ve) (w : World) (n : Nat) (hn : xs.length = n) (h40 : n ≤ 1099511627776) (hR : Rv w A c xs) (b : Bool) (hb : b = true ↔ ChkI xs) :
    Calls Try.prog 16 #[.slice A n c] w fun e w' => e = .returned (.bool b) ∧ Below w.heap.size w w' := by
  have HBB := Lib.hid hb
  have HR := Lib.hid hR
  have HN := Lib.hid hn
  clear hb hR
  go_enter Try.func16, Try.ntmps16
  go_wp2_with fail
  go_loopw [3] (fun i wr => ∃ j : Nat, j ≤ n ∧ i = .int .i64 j ∧ UpTo xs j ∧ Below w.heap.size w wr) (fun i _ => n - (intOf i).toNat)
  case atStart => exact ⟨0, Nat.zero_le _, rfl, UpTo.zero _, Below.refl _ _⟩
  case round =>
    obtain ⟨j, hj, hi, hup, hbel⟩ := hrel
    have HU := Lib.hid hup
    have HL := Lib.hid hbel
    have hsz := hbel.size
    clear hup
    by_cases hlt : j < n
    · obtain ⟨⟨s, v, d⟩, hx⟩ : ∃ x, xs[j]? = some x := ⟨_, List.getElem?_eq_getElem (by omega)⟩
      obtain ⟨g, off, rfl, hg, hcell⟩ := (HR.out.below hbel (Nat.le_refl _)).at (by omega)
      obtain ⟨c0, c1, c2⟩ := hcell j _ hx
      have HX := Lib.hid hx
      by_cases hj0 : j = 0
      · subst hj0
        replace hi := (show _ = Value.int .i64 (0 : Int) from hi)
        subst hi
        simp only [Nat.zero_mul, Nat.add_zero] at c0 c1 c2
        clear hcell hx hbel
        by_cases hs : s = 0
        · have hs' : ((s : Int) == 0) = true := by simp; omega
          clear hs
          cases d
          · have HOK := Lib.hid (show bad (s, v, false) = false by rfl)
            go_wp2_with fail
            go_quiet (fail)
            go_wp2
            go_roundw
            case rel => exact ⟨0 + 1, by omega, rfl, UpTo.first HX.out HOK.out, below_drewN HL.out _⟩
            case measure => simp [intOf]; omega
          · cases he : v.toList.isEmpty
            · have HBAD := Lib.hid (show bad (s, v, true) = true by unfold bad; rw [he]; rfl)
              obtain rfl := bool_false HBB.out (fun h => by have := h.1 0 _ HX.out; rw [HBAD.out] at this; cases this)
              go_wp2
              go_ret
              exact ⟨rfl, HL.out⟩
            · have HOK := Lib.hid (show bad (s, v, true) = false by unfold bad; rw [he]; rfl)
              go_wp2_with fail
              go_quiet (fail)
              go_wp2
              go_roundw
              case rel => exact ⟨0 + 1, by omega, rfl, UpTo.first HX.out HOK.out, below_drewN HL.out _⟩
              case measure => simp [intOf]; omega
        · have hs' : ((s : Int) == 0) = false := by simp; omega
          clear hs
          cases d
          · have HOK := Lib.hid (show bad (s, v, false) = false by rfl)
            go_wp2_with fail
            go_quiet (fail)
            go_wp2
            go_roundw
            case rel => exact ⟨0 + 1, by omega, rfl, UpTo.first HX.out HOK.out, below_drewN HL.out _⟩
            case measure => simp [intOf]; omega
          · cases he : v.toList.isEmpty
            · have HBAD := Lib.hid (show bad (s, v, true) = true by unfold bad; rw [he]; rfl)
              obtain rfl := bool_false HBB.out (fun h => by have := h.1 0 _ HX.out; rw [HBAD.out] at this; cases this)
              go_wp2
              go_ret
              exact ⟨rfl, HL.out⟩
            · have HOK := Lib.hid (show bad (s, v, true) = false by unfold bad; rw [he]; rfl)
              go_wp2_with fail
              go_quiet (fail)
              go_wp2
              go_roundw
              case rel => exact ⟨0 + 1, by omega, rfl, UpTo.first HX.out HOK.out, below_drewN HL.out _⟩
              case measure => simp [intOf]; omega
      · obtain ⟨m, rfl⟩ : ∃ m, j = m + 1 := ⟨j - 1, by omega⟩
        subst hi
        obtain ⟨y, hy⟩ : ∃ y, xs[m]? = some y := ⟨_, List.getElem?_eq_getElem (by omega)⟩
        obtain ⟨d0, d1, d2⟩ := hcell m _ hy
        have HY := Lib.hid hy
        clear hcell hx hy hbel hj0
        by_cases hs : s = 0
        · have hs' : ((s : Int) == 0) = true := by simp; omega
          have HS := Lib.hid hs
          clear hs
          obtain rfl := bool_false HBB.out (fun h => (flw_iff.1 (h.2 m _ _ HY.out HX.out)).1 HS.out)
          go_wp2
          go_ret
          exact ⟨rfl, HL.out⟩
        · have hs' : ((s : Int) == 0) = false := by simp; omega
          have HS := Lib.hid hs
          clear hs
          cases d
          · have HOK := Lib.hid (show bad (s, v, false) = false by rfl)
            by_cases hp0 : y.1 = 0
            · have hp0' : ((y.1 : Int) != 0) = false := by simp; omega
              have HU2 := Lib.hid (UpTo.next HU.out HY.out HX.out HOK.out (flw_iff.2 ⟨HS.out, .inl hp0⟩))
              clear hp0
              go_wp2_with fail
              go_quiet (fail)
              go_wp2
              go_roundw
              case rel => exact ⟨m + 1 + 1, by omega, by go_num, HU2.out, below_drewN HL.out _⟩
              case measure => simp [intOf]; omega
            · have hp0' : ((y.1 : Int) != 0) = true := by simp; omega
              by_cases hle : y.1 ≤ s
              · have hle' : decide (y.1 ≤ s) = true := by simpa using hle
                obtain rfl := bool_false HBB.out (fun h => by have h9 := flw_iff.1 (h.2 m _ _ HY.out HX.out); have h8 := h9.2; simp only at h8; omega)
                clear hp0
                go_wp2_with fail
                go_quiet (fail)
                go_wp2
                go_ret
                exact ⟨rfl, below_drewN HL.out _⟩
              · have hle' : decide (y.1 ≤ s) = false := by simpa using hle
                have HU2 := Lib.hid (UpTo.next HU.out HY.out HX.out HOK.out (flw_iff.2 ⟨HS.out, .inr (by simp only; omega)⟩))
                clear hp0
                go_wp2_with fail
                go_quiet (fail)
                go_wp2
                go_roundw
                case rel => exact ⟨m + 1 + 1, by omega, by go_num, HU2.out, below_drewN HL.out _⟩
                case measure => simp [intOf]; omega
          · cases he : v.toList.isEmpty
            · have HBAD := Lib.hid (show bad (s, v, true) = true by unfold bad; rw [he]; rfl)
              obtain rfl := bool_false HBB.out (fun h => by have := h.1 (m + 1) _ HX.out; rw [HBAD.out] at this; cases this)
              go_wp2
              go_ret
              exact ⟨rfl, HL.out⟩
            · have HOK := Lib.hid (show bad (s, v, true) = false by unfold bad; rw [he]; rfl)
              by_cases hp0 : y.1 = 0
              · have hp0' : ((y.1 : Int) != 0) = false := by simp; omega
                have HU2 := Lib.hid (UpTo.next HU.out HY.out HX.out HOK.out (flw_iff.2 ⟨HS.out, .inl hp0⟩))
                clear hp0
                go_wp2_with fail
                go_quiet (fail)
                go_wp2
                go_roundw
                case rel => exact ⟨m + 1 + 1, by omega, by go_num, HU2.out, below_drewN HL.out _⟩
                case measure => simp [intOf]; omega
              · have hp0' : ((y.1 : Int) != 0) = true := by simp; omega
                by_cases hle : y.1 ≤ s
                · have hle' : decide (y.1 ≤ s) = true := by simpa using hle
                  obtain rfl := bool_false HBB.out (fun h => by have h9 := flw_iff.1 (h.2 m _ _ HY.out HX.out); have h8 := h9.2; simp only at h8; omega)
                  clear hp0
                  go_wp2_with fail
                  go_quiet (fail)
                  go_wp2
                  go_ret
                  exact ⟨rfl, below_drewN HL.out _⟩
                · have hle' : decide (y.1 ≤ s) = false := by simpa using hle
                  have HU2 := Lib.hid (UpTo.next HU.out HY.out HX.out HOK.out (flw_iff.2 ⟨HS.out, .inr (by simp only; omega)⟩))
                  clear hp0
                  go_wp2_with fail
                  go_quiet (fail)
                  go_wp2
                  go_roundw
                  case rel => exact ⟨m + 1 + 1, by omega, by go_num, HU2.out, below_drewN HL.out _⟩
                  case measure => simp [intOf]; omega
    · subst hi
      obtain rfl : j = n := by omega
      obtain rfl := bool_true HBB.out (HU.out.all HN.out)
      go_wp2
      go_ret
      exact ⟨rfl, hbel⟩
end Go.Proofs.Ytmaadlkojcekgaa
