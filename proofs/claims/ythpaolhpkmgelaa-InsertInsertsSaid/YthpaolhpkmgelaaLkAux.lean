/-
  The latch of a view, rows that a law has made, and the list of a law's cells. Condition: the kit's small configurations.
-/
import Derived.Test.YthpaolhpkmgelaaLkCells
namespace Go.Proofs.Ythpaolhpkmgelaa
open Go.RowKit Go.Deep Plain
set_option linter.unusedVariables false

theorem Start.rest {F : Nat} {l : List Cel} (h : Start F l) : ∀ i : Int, ((1 ≤ i ∧ i ≤ 3) ∨ (6 ≤ i ∧ i < 10) ∨ 10 + 100 * (F : Int) + 400 ≤ i) → cellAt l i = cel0 := fun i hi => by
  have e : nad F 1 1 = 12 := by rw [nad_eq (by omega) (by omega) (by omega), nla_eq (by omega) (by omega)]; omega
  exact h.zero i (by omega) (by omega) (by omega)
end Go.Proofs.Ythpaolhpkmgelaa
