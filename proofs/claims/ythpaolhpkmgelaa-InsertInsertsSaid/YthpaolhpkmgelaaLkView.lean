/-
  What the cells of a memory as plain data and the kit's group answer. Condition: the kit's small configurations.
-/
import Derived.Test.YthpaolhpkmgelaaLkPutK
namespace Go.Proofs.Ythpaolhpkmgelaa
section
open Go.RowKit Go.Deep Plain
set_option linter.unusedVariables false

end

section
open Go.RowKit Go.Deep Plain
set_option linter.unusedVariables false

/-- What group builds: so many slots in nodes, m left. -/
structure Grp (F least n m : Nat) (ps : List Nat) : Prop where
  sum : ps.sum + m = n
  le : ∀ i p : Nat, ps[i]? = some p → 1 ≤ p ∧ p ≤ F
  ge : ∀ i p : Nat, ps[i]? = some p → least ≤ p ∨ (m = 0 ∧ i + 1 = ps.length)
theorem Grp.step {F least n m k : Nat} {ps : List Nat} (h : Grp F least n m ps) (hm : 0 < m) (hk : least ≤ k) (hk1 : 1 ≤ k) (hkF : k ≤ F) : Grp F least n (m - min k m) (ps ++ [min k m]) := by
  refine ⟨?_, fun i p hp => ?_, fun i p hp => ?_⟩
  · have := h.sum; rw [List.sum_append]; simp; omega
  · rcases Nat.lt_or_ge i ps.length with h1 | h1
    · rw [List.getElem?_append_left h1] at hp; exact h.le i p hp
    · rw [List.getElem?_append_right h1] at hp
      have h2 := (List.getElem?_eq_some_iff.1 hp).1
      simp at h2
      rw [show i - ps.length = 0 by omega] at hp
      have hp' : min k m = p := by simpa using hp
      omega
  · rcases Nat.lt_or_ge i ps.length with h1 | h1
    · rw [List.getElem?_append_left h1] at hp
      rcases h.ge i p hp with h2 | h2
      · exact .inl h2
      · omega
    · rw [List.getElem?_append_right h1] at hp
      have h2 := (List.getElem?_eq_some_iff.1 hp).1
      simp at h2
      rw [show i - ps.length = 0 by omega] at hp
      have hp' : min k m = p := by simpa using hp
      rcases (by omega : least ≤ p ∨ m < least) with h3 | h3
      · exact .inl h3
      · exact .inr ⟨by omega, by rw [List.length_append]; simp; omega⟩
theorem Grp.len {F least n m : Nat} {ps : List Nat} (h : Grp F least n m ps) : ps.length ≤ n := by
  have h1 : ∀ qs : List Nat, (∀ p ∈ qs, 1 ≤ p) → qs.length ≤ qs.sum := by
    intro qs
    induction qs with
    | nil => intro _; exact Nat.le_refl _
    | cons q r ih =>
      intro hq
      have := ih fun p hp => hq p (List.mem_cons_of_mem _ hp)
      have := hq q (List.mem_cons_self ..)
      rw [List.length_cons, List.sum_cons]; omega
  have := h1 ps fun p hp => by obtain ⟨i, hi⟩ := List.mem_iff_getElem?.1 hp; exact (h.le i p hi).1
  have := h.sum
  omega
end
end Go.Proofs.Ythpaolhpkmgelaa
