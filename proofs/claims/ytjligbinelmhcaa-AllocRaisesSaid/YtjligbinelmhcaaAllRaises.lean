/-
  The statement of layer 5 'a counter is raised to the greatest number': it returns true for every first value, list of numbers and list of picks; nothing that was there is written. Condition: the lists within the model's reach.
-/
import Derived.Test.YtjligbinelmhcaaAllAwake
import Derived.Deep.AppendLies
import Derived.Deep.DeepCutAuto
import Derived.Deep.CutBlock
namespace Go.Proofs.Ytjligbinelmhcaa
open Go.RowKit Go.Deep
set_option linter.unusedVariables false

/-- The greatest of the first number and the first j of the list. -/
def most (first : Nat) (ts : List Nat) (j : Nat) : Nat := (ts.take j).foldl max first
theorem most_zero (first : Nat) (ts : List Nat) : most first ts 0 = first := by simp [most]
theorem most_succ (first : Nat) (ts : List Nat) (j : Nat) (h : j < ts.length) : most first ts (j + 1) = max (most first ts j) (ts.getD j 0) := by
  unfold most
  rw [List.take_succ_eq_append_getElem h, List.foldl_append, List.getD_eq_getElem?_getD, List.getElem?_eq_getElem h]
  rfl
theorem most_first (first : Nat) (ts : List Nat) : ∀ j, j ≤ ts.length → first ≤ most first ts j
  | 0, _ => by rw [most_zero]; exact Nat.le_refl _
  | j + 1, h => by
    rw [most_succ _ _ _ h]
    have := most_first first ts j (by omega)
    omega
theorem most_le (first : Nat) (ts : List Nat) (i : Nat) : ∀ j, j ≤ ts.length → i < j → ts.getD i 0 ≤ most first ts j
  | 0, _, h => by omega
  | j + 1, hj, h => by
    rw [most_succ _ _ _ hj]
    by_cases e : i = j
    · subst e; omega
    · have := most_le first ts i j (by omega) (by omega)
      omega
theorem most_is (first : Nat) (ts : List Nat) : ∀ j, j ≤ ts.length → most first ts j = first ∨ ∃ i, i < j ∧ most first ts j = ts.getD i 0
  | 0, _ => .inl (most_zero _ _)
  | j + 1, h => by
    rw [most_succ _ _ _ h]
    rcases Nat.le_total (most first ts j) (ts.getD j 0) with e | e
    · exact .inr ⟨j, by omega, by omega⟩
    · rcases most_is first ts j (by omega) with h1 | ⟨i, h1, h2⟩
      · exact .inl (by omega)
      · exact .inr ⟨i, by omega, by omega⟩

/-- What holds of raisers while they are picked. -/
structure Rs (first want : Nat) (lim : Nat → Nat) (n : Nat) (L : List Mac) (v : Nat) : Prop where
  lo : first ≤ v
  hi : v ≤ want
  lims : ∀ j, j < n → lim j ≤ want
  len : L.length = n
  look : ∀ (j : Nat) (x : Mac), L[j]? = some x → x.1 = 1 → x.2 < lim j
  fin : ∀ (j : Nat) (x : Mac), L[j]? = some x → 2 ≤ x.1 → lim j ≤ v

theorem Rs.step {first want n v v' t : Nat} {lim : Nat → Nat} {L : List Mac} {y y' : Mac} (h : Rs first want lim n L v) (hy : L[t]? = some y) (hs : y.1 ≤ 3) (hm : moved (lim t) (lim t) y v = y') (hv : counts (lim t) y v = v') : Rs first want lim n (L.set t y') v' := by
  have ht : t < n := by rw [← h.len]; exact (List.getElem?_eq_some_iff.1 hy).1
  have hlen : (L.set t y').length = n := by rw [List.length_set]; exact h.len
  obtain ⟨s, N⟩ := y
  simp only at hs hm hv
  rcases (by omega : s = 0 ∨ s = 1 ∨ s = 2 ∨ s = 3) with rfl | rfl | rfl | rfl
  · obtain rfl : v = v' := by simpa [counts] using hv
    by_cases hl : lim t ≤ v
    · obtain rfl : (3, v) = y' := by simpa [moved, hl] using hm
      exact ⟨h.lo, h.hi, h.lims, hlen, set_all (by simp) (fun j x _ => h.look j x), set_all (fun _ => hl) (fun j x _ => h.fin j x)⟩
    · obtain rfl : (1, v) = y' := by simpa [moved, hl] using hm
      exact ⟨h.lo, h.hi, h.lims, hlen, set_all (fun _ => by simp only; omega) (fun j x _ => h.look j x), set_all (by simp) (fun j x _ => h.fin j x)⟩
  · have hlk := h.look t _ hy rfl
    simp only at hlk
    by_cases hl : N = v
    · subst hl
      obtain rfl : (2, N) = y' := by simpa [moved] using hm
      obtain rfl : lim t = v' := by simpa [counts] using hv
      exact ⟨by have := h.lo; omega, h.lims t ht, h.lims, hlen, set_all (by simp) (fun j x _ => h.look j x), set_all (fun _ => Nat.le_refl _) (fun j x _ hx e => by have := h.fin j x hx e; omega)⟩
    · obtain rfl : (0, N) = y' := by simpa [moved, hl] using hm
      obtain rfl : v = v' := by simpa [counts, hl] using hv
      exact ⟨h.lo, h.hi, h.lims, hlen, set_all (by simp) (fun j x _ => h.look j x), set_all (by simp) (fun j x _ => h.fin j x)⟩
  all_goals
    obtain rfl := hm
    obtain rfl : v = v' := by simpa [counts] using hv
    have hf := h.fin t _ hy (by simp)
    have hm' : ∀ g : Nat, moved (lim t) g (2, N) v = (2, N) ∧ moved (lim t) g (3, N) v = (3, N) := fun g => ⟨rfl, rfl⟩
    first
      | (rw [(hm' _).1]; exact ⟨h.lo, h.hi, h.lims, by rw [List.length_set]; exact h.len, set_all (by simp) (fun j x _ => h.look j x), set_all (fun _ => hf) (fun j x _ => h.fin j x)⟩)
      | (rw [(hm' _).2]; exact ⟨h.lo, h.hi, h.lims, by rw [List.length_set]; exact h.len, set_all (by simp) (fun j x _ => h.look j x), set_all (fun _ => hf) (fun j x _ => h.fin j x)⟩)
theorem Rs.start {first want : Nat} {lim : Nat → Nat} (n : Nat) (h1 : first ≤ want) (h2 : ∀ j, j < n → lim j ≤ want) : Rs first want lim n (List.replicate n (0, 0)) first := by
  have hx : ∀ (j : Nat) (x : Mac), (List.replicate n ((0, 0) : Mac))[j]? = some x → x = (0, 0) := fun j x h => (List.mem_replicate.1 (List.mem_of_getElem? h)).2
  exact ⟨Nat.le_refl _, h1, h2, by simp, fun j x h e => by rw [hx j x h] at e; simp at e, fun j x h e => by rw [hx j x h] at e; simp at e⟩

theorem poked {w w3 w4 : World} {b g : Nat} (hb : w.heap.size ≤ b ∧ w.heap.size ≤ g) (hK3 : Kept (fun _ => False) w w3) (hK : Kept (Own b g) w3 w4) : Kept (fun _ => False) w w4 :=
  hK3.trans hK (fun i hi h => by unfold Own at h; omega)

set_option maxRecDepth 100000 in
set_option maxHeartbeats 4000000 in
theorem lawRaises_out (first : Nat) (A B : Option Addr) (lt ct lp cp : Nat) (w : World) (ht : lt ≤ maxLen) (hp : lp ≤ maxLen) (h : lt = 0 ∨ 100 < lp) :
    Calls Try.prog 4 #[.int .u64 (first : Int), .slice A lt ct, .slice B lp cp] w fun e w' => e = .returned (.bool true) ∧ Below w.heap.size w w' := by
  unfold maxLen at ht hp
  obtain ⟨n, hn⟩ : ∃ n : Nat, min (lt : Int) 6 = n := ⟨min lt 6, by omega⟩
  have hn0 : n ≤ 6 ∧ (n = 0 ↔ lt = 0) := by omega
  go_enter Try.func4, Try.ntmps4
  go_upto_region 1 with fail
  go_cut [7] (fun a wx => a = .int .i64 (n : Int) ∧ wx = w)
  case first =>
    by_cases h6 : 6 < lt
    · obtain rfl : n = 6 := by omega
      go_wp2
      go_meet
      exact ⟨rfl, rfl⟩
    · obtain rfl : n = lt := by omega
      go_wp2
      go_meet
      exact ⟨rfl, rfl⟩
  case rest =>
    obtain ⟨rfl, rfl⟩ := hcut
    go_wp2_with fail
    refine (new_1 _).mono ?_; rintro e w3 ⟨rfl, hM3, hK3⟩
    have HK3 := Lib.hid hK3
    clear hM3 hK3
    go_wp2_with fail
    refine (awake_any _).mono ?_; rintro e w4 ⟨rfl, hK4⟩
    have HK4 := Lib.hid (HK3.out.trans hK4 (fun _ _ h => h))
    clear hK4 HK3
    by_cases h0 : n = 0
    · have hz : ((n : Int) == 0) = true := by rw [h0]; rfl
      go_wp2_with fail
      refine (awake_any _).mono ?_; rintro e w5 ⟨rfl, hK5⟩
      have HK5 := Lib.hid (HK4.out.trans hK5 (fun _ _ h => h))
      clear hK5 HK4
      go_wp2
      go_ret
      exact ⟨rfl, HK5.out.below (Nat.le_refl _) (fun _ h => h.elim)⟩
    · have hlp : 100 < lp := by omega
      go_wp2_with fail
      refine (awake_any _).mono ?_; rintro e w5 ⟨rfl, hK5⟩
      have HK5 := Lib.hid (HK4.out.trans hK5 (fun _ _ h => h))
      clear hK5 HK4
      go_wp2
      go_ret
      exact ⟨rfl, HK5.out.below (Nat.le_refl _) (fun _ h => h.elim)⟩
end Go.Proofs.Ytjligbinelmhcaa
