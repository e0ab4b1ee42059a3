/-
  A row of words that the library's sort works on: what its cells hold, as an array; what two stores make of it. Condition: none.
-/
import Derived.Test.YtddjggckmmdicaaRegSort
import Derived.Sort.AssemblyPlain
import Derived.Shelf.RegionOpenPlain
namespace Go.Proofs.Ytddjggckmmdicaa
open Go.RowKit Go.Deep
open Go.Sort (swp size_swp insInner insOuter)
set_option linter.unusedVariables false

/-- cmp.Less at words. -/
def ltW (x y : Nat) : Bool := decide (x < y)
theorem less_w (x y : Nat) (b : Bool) (h : ltW x y = b) (w : World) :
    Calls Try.prog 56 #[.int .u64 (x : Int), .int .u64 (y : Int)] w fun e w' => e = .returned (.bool b) ∧ w = w' := by
  subst h; exact less_any x y w
/-- The cells hold this array, none of them frozen; w is the world that the call began in: nothing but the block has changed. -/
structure Ro (w0 w : World) (g off : Nat) (d : Array Nat) : Prop where
  cl : ∀ j, j < d.size → w.cell? ⟨g, off + j, none⟩ = some (.int .u64 ((d[j]! : Nat) : Int))
  fr : ∀ j, j < d.size → w.frozen? ⟨g, off + j, none⟩ = false
  kept : Kept (fun k => k = g) w0 w
theorem Ro.drew {w0 w : World} {g off : Nat} {d : Array Nat} (h : Ro w0 w g off d) : Ro w0 w.drew g off d := ⟨h.cl, h.fr, h.kept.drew⟩
theorem Ro.drewN {w0 w : World} {g off : Nat} {d : Array Nat} (h : Ro w0 w g off d) (n : Nat) : Ro w0 (w.drewN n) g off d := ⟨h.cl, h.fr, h.kept.drewN n⟩
theorem Ro.swap {w0 w : World} {g off : Nat} {d : Array Nat} (h : Ro w0 w g off d) (i j x y : Nat) (hi : i < d.size) (hj : j < d.size) (hx : d[i]! = x) (hy : d[j]! = y) :
    Ro w0 ((w.setCell ⟨g, off + i, none⟩ (.int .u64 (y : Int))).setCell ⟨g, off + j, none⟩ (.int .u64 (x : Int))).drew g off (swp d i j) := by
  have ne : ∀ a b : Nat, a ≠ b → (⟨g, off + a, none⟩ : Addr) ≠ ⟨g, off + b, none⟩ := fun a b hab e => by injection e with _ e _; omega
  have c1 : ∀ k, k < d.size → ∃ u, (w.setCell ⟨g, off + i, none⟩ (.int .u64 (y : Int))).cell? ⟨g, off + k, none⟩ = some u := fun k hk => by
    by_cases e : i = k
    · subst e; exact ⟨_, World.cell?_setCell_same _ _ _ (h.cl i hi)⟩
    · exact ⟨_, (World.cell?_setCell_other _ _ _ _ (ne i k e)).trans (h.cl k hk)⟩
  refine ⟨fun k hk => ?_, fun k hk => ?_, ?_⟩
  · rw [size_swp] at hk
    show ((w.setCell _ _).setCell _ _).cell? _ = _
    by_cases ej : j = k
    · subst ej
      obtain ⟨u, hu⟩ := c1 j hj
      rw [Go.Sort.swp_right d i j hj, hx]; exact World.cell?_setCell_same _ _ _ hu
    · refine (World.cell?_setCell_other _ _ _ _ (ne j k ej)).trans ?_
      by_cases ei : i = k
      · subst ei
        rw [Go.Sort.swp_left d i j hi (fun e => ej e.symm), hy]; exact World.cell?_setCell_same _ _ _ (h.cl i hi)
      · rw [Go.Sort.swp_other d i j k (fun e => ei e.symm) (fun e => ej e.symm)]
        exact (World.cell?_setCell_other _ _ _ _ (ne i k ei)).trans (h.cl k hk)
  · rw [size_swp] at hk
    show ((w.setCell _ _).setCell _ _).frozen? _ = _
    rw [World.frozen?_setCell, World.frozen?_setCell]; exact h.fr k hk
  · exact ((h.kept.setCell (a := ⟨g, off + i, none⟩) (fun _ => rfl) _).setCell (a := ⟨g, off + j, none⟩) (fun _ => rfl) _).drew
/-- What the two stores of a swap find. -/
theorem Ro.st {w0 w : World} {g off : Nat} {d : Array Nat} (h : Ro w0 w g off d) (i j : Nat) (hi : i < d.size) (hj : j < d.size) (v : Value) : ∃ u, (w.setCell ⟨g, off + i, none⟩ v).cell? ⟨g, off + j, none⟩ = some u := by
  by_cases e : i = j
  · subst e; exact ⟨_, World.cell?_setCell_same _ _ _ (h.cl i hi)⟩
  · exact ⟨_, (World.cell?_setCell_other _ _ _ _ (fun e2 => by injection e2 with _ e2 _; omega)).trans (h.cl j hj)⟩

theorem insInner_go (a j : Nat) (d : Array Nat) (hj : a < j + 1) (hl : ltW d[j + 1]! d[j]! = true) : insInner ltW a (j + 1) d = insInner ltW a j (swp d (j + 1) j) := by
  rw [insInner, if_pos (by simp [hl]; omega)]
theorem insInner_stop (a j : Nat) (d : Array Nat) (h : ltW d[j + 1]! d[j]! = false) : insInner ltW a (j + 1) d = d := by
  rw [insInner, if_neg (by simp [h])]
theorem insInner_end (a j : Nat) (d : Array Nat) (h : j ≤ a) : insInner ltW a j d = d := by
  cases j with
  | zero => rw [insInner]
  | succ j => rw [insInner, if_neg (by simp; omega)]
theorem insOuter_go (a b i : Nat) (d : Array Nat) (h : i < b) : insOuter ltW a b i d = insOuter ltW a b (i + 1) (insInner ltW a i d) := by rw [insOuter, if_pos h]
theorem insOuter_stop (a b i : Nat) (d : Array Nat) (h : ¬ i < b) : insOuter ltW a b i d = d := by rw [insOuter, if_neg h]

open Go.Sort (siftDown heapBuild heapPop reverseLoop) in
theorem sift_end (hi first root : Nat) (d : Array Nat) (h : 2 * root + 1 ≥ hi) : siftDown ltW hi first root d = d := by rw [siftDown, dif_pos h]
open Go.Sort (siftDown) in
theorem sift_stop (hi first root c : Nat) (d : Array Nat) (h : ¬ 2 * root + 1 ≥ hi) (hc : (c = 2 * root + 2 ∧ 2 * root + 1 + 1 < hi ∧ ltW d[first + (2 * root + 1)]! d[first + (2 * root + 1) + 1]! = true) ∨ (c = 2 * root + 1 ∧ (2 * root + 1 + 1 < hi → ltW d[first + (2 * root + 1)]! d[first + (2 * root + 1) + 1]! = false))) (hl : ltW d[first + root]! d[first + c]! = false) : siftDown ltW hi first root d = d := by
  rw [siftDown, dif_neg h]
  rcases hc with ⟨rfl, h1, h2⟩ | ⟨rfl, h1⟩
  · rw [if_pos (by simp [h1, h2]), if_pos (by simp [hl])]
  · rw [if_neg (by simp; exact h1), if_pos (by simp [hl])]
open Go.Sort (siftDown) in
theorem sift_go (hi first root c : Nat) (d : Array Nat) (h : ¬ 2 * root + 1 ≥ hi) (hc : (c = 2 * root + 2 ∧ 2 * root + 1 + 1 < hi ∧ ltW d[first + (2 * root + 1)]! d[first + (2 * root + 1) + 1]! = true) ∨ (c = 2 * root + 1 ∧ (2 * root + 1 + 1 < hi → ltW d[first + (2 * root + 1)]! d[first + (2 * root + 1) + 1]! = false))) (hl : ltW d[first + root]! d[first + c]! = true) : siftDown ltW hi first root d = siftDown ltW hi first c (swp d (first + root) (first + c)) := by
  rw [siftDown, dif_neg h]
  rcases hc with ⟨rfl, h1, h2⟩ | ⟨rfl, h1⟩
  · rw [if_pos (by simp [h1, h2]), if_neg (by simp [hl]), dif_pos (by omega)]
  · rw [if_neg (by simp; exact h1), if_neg (by simp [hl])]
end Go.Proofs.Ytddjggckmmdicaa
