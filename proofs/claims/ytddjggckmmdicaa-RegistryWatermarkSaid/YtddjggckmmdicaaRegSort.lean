/-
  What slices.Sort leaves of an ascending row of at most 12 words: the row itself. Condition: none.
-/
import Derived.Test.YtddjggckmmdicaaRegLess
import Derived.Test.YtddjggckmmdicaaKeptRegion
namespace Go.Proofs.Ytddjggckmmdicaa
open Go.RowKit Go.Deep
set_option linter.unusedVariables false

/-- A slice that reads as these words. -/
structure Rw (w : World) (A : Option Addr) (c : Nat) (ns : List Nat) : Prop where
  le : ns.length ≤ c
  max : c ≤ maxLen
  some' : 0 < ns.length → ∃ g off, A = some ⟨g, off, none⟩ ∧ g < w.heap.size ∧ ∀ j x, ns[j]? = some x → w.cell? ⟨g, off + j, none⟩ = some (.int .u64 ((x : Nat) : Int))
theorem Rw.at {w : World} {A : Option Addr} {c : Nat} {xs : List Nat} (h : Rw w A c xs) (hp : 0 < xs.length) : ∃ g off, A = some ⟨g, off, none⟩ ∧ g < w.heap.size ∧ ∀ (i : Nat) (x : Nat), xs[i]? = some x → w.cell? ⟨g, off + i, none⟩ = some (.int .u64 (x : Int)) := h.some' hp
theorem Rw.below {w w' : World} {A : Option Addr} {c : Nat} {xs : List Nat} {B : Nat} (h : Rw w A c xs) (hb : Below B w w') (hB : w.heap.size ≤ B) : Rw w' A c xs :=
  ⟨h.le, h.max, fun hp => by
    obtain ⟨g, off, e, hg, hc⟩ := h.some' hp
    exact ⟨g, off, e, Nat.lt_of_lt_of_le hg hb.size, fun j u hu => (hb.cell (p := ⟨g, off + j, none⟩) (Nat.lt_of_lt_of_le hg hB)).trans (hc j u hu)⟩⟩
theorem Rw.drewN {w : World} {A : Option Addr} {c : Nat} {xs : List Nat} (h : Rw w A c xs) (m : Nat) : Rw (w.drewN m) A c xs := ⟨h.le, h.max, h.some'⟩
theorem Rw.own {w : World} {base : Nat} {v : Value} {n : Nat} {xs : List Nat} (h : w.ownsRow base 22 1 v n (words xs)) : ∃ A c, v = .slice A n c ∧ xs.length = n ∧ Rw w A c xs := by
  have hl : xs.length = n := by have := h.1; unfold words at this; rw [List.length_map] at this; omega
  rcases h.2 with ⟨rfl, rfl⟩ | ⟨g, cap, cur, rfl, hb, hg, hc, hm, rest⟩
  · exact ⟨none, 0, rfl, hl, ⟨by omega, Nat.zero_le _, fun h => absurd h (by omega)⟩⟩
  · refine ⟨_, cap, rfl, hl, ⟨by omega, hm, fun _ => ⟨g, 0, rfl, (Array.getElem?_eq_some_iff.1 hg).1, fun j u hu => ?_⟩⟩⟩
    have := h.cells (g := g) rfl j (.int .u64 (u : Int)) (by unfold words; rw [List.getElem?_map, hu]; rfl)
    rw [Addr.add_lit] at this
    exact this

/-- The row goes up. -/
def Asc (xs : List Nat) : Prop := ∀ (i x y : Nat), xs[i]? = some x → xs[i + 1]? = some y → x ≤ y

theorem less_no (x y : Nat) (h : y ≤ x) (w : World) :
    Calls Try.prog 56 #[.int .u64 (x : Int), .int .u64 (y : Int)] w fun e w' => e = .returned (.bool false) ∧ w = w' := by
  have := less_any x y w; rwa [decide_eq_false (by omega)] at this

set_option maxHeartbeats 2000000 in
theorem ins_asc (A : Option Addr) (c : Nat) (xs : List Nat) (w : World) (n : Nat) (hn : xs.length = n) (h12 : n ≤ 12) (hR : Rw w A c xs) (ha : Asc xs) :
    Calls Try.prog 50 #[.slice A n c, .int .i64 0, .int .i64 (n : Int)] w fun e w' => e = .returned (.tuple #[]) ∧ ∃ m, w' = w.drewN m := by
  have HR := Lib.hid hR
  have HA := Lib.hid ha
  clear hR ha
  go_enter Try.func50, Try.ntmps50
  go_wp2
  go_loopw [6] (fun i wr => ∃ j m : Nat, 1 ≤ j ∧ j ≤ n + 1 ∧ i = .int .i64 j ∧ wr = w.drewN m) (fun i _ => n + 1 - (intOf i).toNat)
  case atStart => exact ⟨1, 0, by omega, by omega, rfl, rfl⟩
  case round =>
    obtain ⟨j, m, hj1, hj, rfl, rfl⟩ := hrel
    by_cases hlt : j < n
    · obtain ⟨i, rfl⟩ : ∃ i, j = i + 1 := ⟨j - 1, by omega⟩
      obtain ⟨g, off, rfl, hg, hcell⟩ := HR.out.at (by omega)
      obtain ⟨x, hx⟩ : ∃ x, xs[i + 1]? = some x := ⟨_, List.getElem?_eq_getElem (by omega)⟩
      obtain ⟨y, hy⟩ : ∃ y, xs[i]? = some y := ⟨_, List.getElem?_eq_getElem (by omega)⟩
      have hyx : y ≤ x := HA.out i y x hy hx
      have c0 := hcell (i + 1) x hx
      have c1 := hcell i y hy
      have hle := HR.out.le
      clear hcell hx hy
      go_wp2_with fail
      go_loopw [7] (fun v wr => ∃ m : Nat, v = .int .i64 ((i + 1 : Nat) : Int) ∧ wr = w.drewN m) (fun _ _ => 0)
      case atStart => exact ⟨m, rfl, rfl⟩
      case round =>
        obtain ⟨m2, rfl, rfl⟩ := hrel
        have hwi : IntKind.i64.wrap (i : Int) = (i : Int) := by simp [IntKind.wrap, IntKind.bits, IntKind.signed]; omega
        have hi0 : (0 : Int) ≤ (i : Int) + 1 := by omega
        have hin : i < n := by omega
        go_wp2_with fail
        refine qregion (fun w' => w'.cell? ⟨g, off + (i + 1), none⟩ = some (.int .u64 (x : Int)) ∧ w'.cell? ⟨g, off + i, none⟩ = some (.int .u64 (y : Int)) ∧ ∃ k, w' = w.drewN k) (by kernel_rfl) (by kernel_rfl) ⟨c0, c1, m2 + 1, rfl⟩ ?_
        refine qstep (o := ⟨some 16, _, _, _, _, _⟩) (v := ?_) (by rfl) (fun wq hSw => ?_) ?_
        rotate_left
        · (try dsimp only at hSw); go_simp; try with_reducible rfl
        try simp only [Act.put, List.setIfInBounds_toArray, List.set_cons_zero, List.set_cons_succ]
        refine qstep (o := ⟨some 17, _, _, _, _, _⟩) (v := ?_) (by rfl) (fun wq hSw => ?_) ?_
        rotate_left
        · (try dsimp only at hSw); go_simp; try with_reducible rfl
        try simp only [Act.put, List.setIfInBounds_toArray, List.set_cons_zero, List.set_cons_succ]
        refine qstep (o := ⟨some 18, _, _, _, _, _⟩) (v := .bool true) (by rfl) (fun wq hSw => ?_) ?_
        · (try dsimp only at hSw); go_simp; try first | (with_reducible rfl) | (simp; omega) | (intros; omega) | simp [*]
        try simp only [Act.put, List.setIfInBounds_toArray, List.set_cons_zero, List.set_cons_succ]
        refine qstep (o := ⟨some 19, _, _, _, _, _⟩) (v := .bool true) (by rfl) (fun wq hSw => ?_) ?_
        · (try dsimp only at hSw); go_simp; try first | (with_reducible rfl) | (simp; omega) | (intros; omega) | simp [*]
        try simp only [Act.put, List.setIfInBounds_toArray, List.set_cons_zero, List.set_cons_succ]
        refine qstep (o := ⟨some 20, _, _, _, _, _⟩) (v := ?_) (by rfl) (fun wq hSw => ?_) ?_
        rotate_left
        · (try dsimp only at hSw); go_simp; try with_reducible rfl
        try simp only [Act.put, List.setIfInBounds_toArray, List.set_cons_zero, List.set_cons_succ]
        refine qstep (o := ⟨some 21, _, _, _, _, _⟩) (v := ?_) (by rfl) (fun wq hSw => ?_) ?_
        rotate_left
        · (try dsimp only at hSw); go_simp; try with_reducible rfl
        try simp only [Act.put, List.setIfInBounds_toArray, List.set_cons_zero, List.set_cons_succ]
        refine qstep (o := ⟨some 22, _, _, _, _, _⟩) (v := .pointer (some ⟨g, off + (i + 1), none⟩)) (by rfl) (fun wq hSw => ?_) ?_
        · (try dsimp only at hSw); go_simp; try first | (with_reducible rfl) | (simp; omega) | (intros; omega) | simp [*]
        try simp only [Act.put, List.setIfInBounds_toArray, List.set_cons_zero, List.set_cons_succ]
        refine qstep (o := ⟨some 23, _, _, _, _, _⟩) (v := .int .u64 (x : Int)) (by rfl) (fun wq hSw => ?_) ?_
        · (try dsimp only at hSw); go_simp; try first | (with_reducible rfl) | (simp; omega) | (intros; omega) | simp [*]
        try simp only [Act.put, List.setIfInBounds_toArray, List.set_cons_zero, List.set_cons_succ]
        refine qstep (o := ⟨some 24, _, _, _, _, _⟩) (v := ?_) (by rfl) (fun wq hSw => ?_) ?_
        rotate_left
        · (try dsimp only at hSw); go_simp; try with_reducible rfl
        try simp only [Act.put, List.setIfInBounds_toArray, List.set_cons_zero, List.set_cons_succ]
        refine qstep (o := ⟨some 25, _, _, _, _, _⟩) (v := ?_) (by rfl) (fun wq hSw => ?_) ?_
        rotate_left
        · (try dsimp only at hSw); go_simp; try with_reducible rfl
        try simp only [Act.put, List.setIfInBounds_toArray, List.set_cons_zero, List.set_cons_succ]
        refine qstep (o := ⟨some 26, _, _, _, _, _⟩) (v := .int .i64 (i : Int)) (by rfl) (fun wq hSw => ?_) ?_
        · (try dsimp only at hSw); go_simp; try first | (with_reducible rfl) | (simp; omega) | (intros; omega) | simp [*]
        try simp only [Act.put, List.setIfInBounds_toArray, List.set_cons_zero, List.set_cons_succ]
        refine qstep (o := ⟨some 27, _, _, _, _, _⟩) (v := .pointer (some ⟨g, off + i, none⟩)) (by rfl) (fun wq hSw => ?_) ?_
        · (try dsimp only at hSw); go_simp; try first | (with_reducible rfl) | (simp; omega) | (intros; omega) | simp [*]
        try simp only [Act.put, List.setIfInBounds_toArray, List.set_cons_zero, List.set_cons_succ]
        refine qstep (o := ⟨some 28, _, _, _, _, _⟩) (v := .int .u64 (y : Int)) (by rfl) (fun wq hSw => ?_) ?_
        · (try dsimp only at hSw); go_simp; try first | (with_reducible rfl) | (simp; omega) | (intros; omega) | simp [*]
        try simp only [Act.put, List.setIfInBounds_toArray, List.set_cons_zero, List.set_cons_succ]
        refine qcall (o := ⟨some 29, _, _, _, _, _⟩) (v := .bool false) (by rfl) (fun wq hSw => ?_) (fun wq hSw => Calls.mono (less_no x y hyx _) ?_) ?_
        · (try dsimp only at hSw); go_simp; try with_reducible rfl
        · rintro e w9 ⟨rfl, rfl⟩; exact ⟨rfl, hSw⟩
        try simp only [Act.put, List.setIfInBounds_toArray, List.set_cons_zero, List.set_cons_succ]
        refine qstep (o := ⟨some 30, _, _, _, _, _⟩) (v := ?_) (by rfl) (fun wq hSw => ?_) ?_
        rotate_left
        · (try dsimp only at hSw); go_simp; try with_reducible rfl
        try simp only [Act.put, List.setIfInBounds_toArray, List.set_cons_zero, List.set_cons_succ]
        refine wpQuiet_nil ?_
        intro wz hHeld
        obtain ⟨-, -, k3, rfl⟩ := hHeld
        go_wp2
        go_roundw
        case rel => exact ⟨i + 2, k3, by omega, by omega, by go_num, rfl⟩
        case measure => simp [intOf]; omega
    · go_wp2
      go_end0
      exact ⟨rfl, m, rfl⟩

set_option maxHeartbeats 1000000 in
theorem pdq_asc (A : Option Addr) (c : Nat) (xs : List Nat) (w : World) (n lim : Nat) (hn : xs.length = n) (h12 : n ≤ 12) (hR : Rw w A c xs) (ha : Asc xs) :
    Calls Try.prog 42 #[.slice A n c, .int .i64 0, .int .i64 (n : Int), .int .i64 (lim : Int)] w fun e w' => e = .returned (.tuple #[]) ∧ ∃ m, w' = w.drewN m := by
  go_enter Try.func42, Try.ntmps42
  go_wp2_with fail
  go_loopw [1, 2] (fun u v wr => u = .int .i64 0 ∧ v = .int .i64 (n : Int) ∧ wr = w) (fun _ _ _ => 0)
  case atStart => exact ⟨rfl, rfl, rfl⟩
  case round =>
    obtain ⟨rfl, rfl, rfl⟩ := hrel
    go_wp2_with fail
    refine (ins_asc A c xs _ n hn h12 hR ha).mono ?_; rintro e w1 ⟨rfl, m, rfl⟩
    go_wp2
    refine bodyPost_ret (results_none rfl _ _ _) rfl ?_
    exact ⟨rfl, m, rfl⟩

set_option maxHeartbeats 1000000 in
theorem sort_asc (A : Option Addr) (c : Nat) (xs : List Nat) (w : World) (n : Nat) (hn : xs.length = n) (h12 : n ≤ 12) (hR : Rw w A c xs) (ha : Asc xs) :
    Calls Try.prog 31 #[.slice A n c] w fun e w' => e = .returned (.tuple #[]) ∧ ∃ m, w' = w.drewN m := by
  go_enter Try.func31, Try.ntmps31
  go_wp2_with fail
  refine (len_any n (by omega) _).mono ?_; rintro e w1 ⟨rfl, rfl⟩
  go_wp2_with fail
  refine (pdq_asc A c xs _ n (Lib.bitLen n) hn h12 hR ha).mono ?_; rintro e w1 ⟨rfl, m, rfl⟩
  go_wp2
  go_end0
  exact ⟨rfl, m, rfl⟩

end Go.Proofs.Ytddjggckmmdicaa
