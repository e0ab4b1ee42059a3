/-
  slices.Sort at words: rows of fewer than 50 words come out as their one ascending order. Condition: the row's cells are not frozen.
-/
import Derived.Test.YtddjggckmmdicaaSrtPdq
namespace Go.Proofs.Ytddjggckmmdicaa
open Go.RowKit Go.Deep
open Go.Sort (PermIn SortedIn SWO sort_sorts sorted_unique_holds)
set_option linter.unusedVariables false

theorem swo_w : SWO ltW := ⟨fun x => by simp [ltW], fun x y z h1 h2 => by simp only [ltW, decide_eq_true_eq] at *; omega, fun x y z h1 h2 => by simp only [ltW, decide_eq_false_iff_not] at *; omega⟩
theorem sort_w (d : Array Nat) : (Go.Sort.sort ltW d).toList = d.toList.mergeSort (fun x y => decide (x ≤ y)) := by
  obtain ⟨h1, h2⟩ := sort_sorts ltW swo_w d
  have := sorted_unique_holds swo_w (fun x y h1 h2 => by simp only [ltW, decide_eq_false_iff_not] at *; omega) d _ h1 h2
  rw [this]
  congr 1
  funext x y
  simp only [ltW]
  by_cases h : x ≤ y
  · rw [decide_eq_true h, decide_eq_false (by omega)]; rfl
  · rw [decide_eq_false h, decide_eq_true (by omega)]; rfl

set_option maxHeartbeats 2000000 in
theorem srt_sort (g off n c : Nat) (hn2 : n < 50) (d : Array Nat) (w : World) (hS : Ro w w g off d) (hg : g < w.heap.size) (hn : d.size = n) :
    Calls Try.prog 31 #[.slice (some ⟨g, off, none⟩) n c] w fun e w' => e = .returned (.tuple #[]) ∧ Ro w w' g off (Go.Sort.sort ltW d) ∧ (Go.Sort.sort ltW d).size = n := by
  have hbl : Lib.bitLen n = Go.Sort.bitsLen n := bitLen_eq n (by omega)
  have hb6 : Go.Sort.bitsLen n ≤ 62 := (Go.Sort.bitsLen_le_iff n 62).2 (by omega)
  have hD : Go.Sort.sort ltW d = Go.Sort.pdq ltW d 0 n (Go.Sort.bitsLen n) true true := by unfold Go.Sort.sort; rw [hn]
  rw [hD]
  have HS := Lib.hid hS
  clear hS hD
  go_enter Try.func31, Try.ntmps31
  go_wp2_with fail
  refine (len_any n (by omega) _).mono ?_; rintro e w1 ⟨rfl, rfl⟩
  rw [hbl]
  go_wp2_with fail
  refine (srt_pdq g off n c (by omega) n 0 n (Go.Sort.bitsLen n) d _ _ (by omega) HS.out hg hn (by omega) (Nat.le_refl _) (by omega) (by omega)).mono ?_; rintro e w1 ⟨rfl, hR, hs⟩
  have HR := Lib.hid hR
  clear hR
  go_wp2
  go_end0
  exact ⟨rfl, HR.out, hs⟩

/-- The same of a slice that reads as these words. -/
theorem sort_any (A : Option Addr) (c : Nat) (xs : List Nat) (w : World) (n base : Nat) (hn : xs.length = n) (h50 : n < 50) (hR : Rw w A c xs) (hb : base ≤ w.heap.size)
    (hF : ∀ g off, A = some ⟨g, off, none⟩ → base ≤ g ∧ ∀ j, j < n → w.frozen? ⟨g, off + j, none⟩ = false) :
    Calls Try.prog 31 #[.slice A n c] w fun e w' => e = .returned (.tuple #[]) ∧ Rw w' A c (xs.mergeSort (fun x y => decide (x ≤ y))) ∧ Below base w w' := by
  by_cases h0 : 0 < xs.length
  · obtain ⟨g, off, rfl, hg, hc⟩ := hR.some' h0
    obtain ⟨hbg, hfr⟩ := hF g off rfl
    have ho : Ro w w g off xs.toArray := ⟨fun j hj => by
      have hj' : j < xs.length := by simpa using hj
      rw [hc j xs[j] (by rw [List.getElem?_eq_getElem hj'])]
      simp [hj'], fun j hj => hfr j (by rw [← hn]; simpa using hj), Kept.refl _ _⟩
    refine (srt_sort g off n c h50 xs.toArray w ho hg (by simpa using hn)).mono ?_
    rintro e w' ⟨rfl, hO, hs⟩
    have hl := sort_w xs.toArray
    simp only at hl
    refine ⟨rfl, ⟨by rw [List.length_mergeSort]; exact hR.le, hR.max, fun _ => ⟨g, off, rfl, Nat.lt_of_lt_of_le hg hO.kept.size, fun j x hx => ?_⟩⟩, hO.kept.below hb (fun i hi => by subst hi; exact hbg)⟩
    rw [← hl] at hx
    have hj : j < (Go.Sort.sort ltW xs.toArray).size := by
      rcases Nat.lt_or_ge j (Go.Sort.sort ltW xs.toArray).size with h | h
      · exact h
      · rw [List.getElem?_eq_none (by simpa using h)] at hx; cases hx
    rw [hO.cl j hj]
    have : (Go.Sort.sort ltW xs.toArray)[j]! = x := by
      rw [Array.getElem?_toList] at hx
      rw [getElem!_def, hx]
    rw [this]
  · obtain rfl : xs = [] := List.eq_nil_of_length_eq_zero (by omega)
    refine (sort_asc A c [] w n hn (by omega) hR (fun i x y h _ => by simp at h)).mono ?_
    rintro e w' ⟨rfl, m, rfl⟩
    exact ⟨rfl, by rw [List.mergeSort_nil]; exact hR.drewN m, below_drewN (Below.refl _ _) m⟩
end Go.Proofs.Ytddjggckmmdicaa
