/-
  What the kit's Cells and Same answer; the node that covers a key. Condition: none.
-/
import Derived.Test.YthpaolhpkmgelaaLkLevel
import Derived.Test.YthpaolhpkmgelaaLkTreeL
namespace Go.Proofs.Ythpaolhpkmgelaa
section
open Go.RowKit Go.Deep Plain
set_option linter.unusedVariables false

theorem same_n (g1 g2 c1 c2 n : Nat) (l : List Cel) (w : World) (hl : l.length = n) (h1 : ∀ i u, (flat3 l)[i]? = some u → w.cell? ⟨g1, i, none⟩ = some u) (h2 : ∀ i u, (flat3 l)[i]? = some u → w.cell? ⟨g2, i, none⟩ = some u) (hn : n ≤ 1099511627776) :
    Calls Try.prog 16 #[.slice (some ⟨g1, 0, none⟩) n c1, .slice (some ⟨g2, 0, none⟩) n c2] w fun e w' => e = .returned (.bool true) ∧ ∃ q, w' = w.drewN q := by
  subst hl; exact same_yes g1 g2 c1 c2 l w h1 h2 hn
/-- Low key ≤ key, as the program compares. -/
theorem le_op (a b : ByteArray) : (Op.bytesLess a.toList b.toList || (a.toList == b.toList)) = !kl b a := by
  rw [bytesLess_ltB]
  show _ = !ltB b.toList a.toList
  cases h1 : ltB a.toList b.toList
  · cases h2 : ltB b.toList a.toList
    · rw [ltB_tri _ _ h1 h2]; simp
    · have : (a.toList == b.toList) = false := beq_false_of_ne fun e => by rw [e, ltB_self] at h2; cases h2
      rw [this]; rfl
  · have := ltB_asymm _ _ h1; rw [this]; rfl
/-- A node of a level covers a key: it is the one that does. -/
theorem covers {F : Nat} {l : List Cel} {s m L : Nat} {lo : Nat → ByteArray} {pg : Nat → Pg} (h : Lvl F l s m L lo pg) {i j : Nat} {key : ByteArray} (hi : i < m) (hj : j < m) (hlj : kl key (lo j) = false) (hcj : cov (pg j) key = true) :
    ((Op.bytesLess (lo i).toList key.toList || ((lo i).toList == key.toList)) && ((pg i).la || Op.bytesLess key.toList (pg i).hi.toList)) = true ↔ i = j := by
  rw [le_op, bytesLess_ltB]
  constructor
  · intro e
    rw [Bool.and_eq_true] at e
    refine h.unique hi hj ?_ hlj ?_ hcj
    · have := e.1; simpa using this
    · exact e.2
  · rintro rfl
    rw [hlj]
    exact hcj
end
end Go.Proofs.Ythpaolhpkmgelaa
