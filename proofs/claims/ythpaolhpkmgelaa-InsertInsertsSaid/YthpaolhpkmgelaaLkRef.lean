/-
  What Chain and Record of the layout's reference and Check of the page's reference answer. Condition: sizes within their limits; rows of at most 2^40 slots.
-/
import Derived.Test.YthpaolhpkmgelaaLkRead
namespace Go.Proofs.Ythpaolhpkmgelaa
section
open Go.RowKit Go.Deep
set_option linter.unusedVariables false

end

section
open Go.RowKit Go.Deep Plain
set_option linter.unusedVariables false

end

section
open Go.RowKit Go.Deep Plain
set_option linter.unusedVariables false

/-- Nothing but draws lies between. -/
def Drawn (W wr : World) : Prop := ∃ q, wr = W.drewN q
theorem Drawn.more {W wr : World} (h : Drawn W wr) (q : Nat) : Drawn W (wr.drewN q) := by obtain ⟨p, rfl⟩ := h; exact ⟨p + q, by rw [World.drewN_drewN]⟩
theorem Drawn.below {W wr : World} (h : Drawn W wr) (B : Nat) : Below B W wr := by obtain ⟨q, rfl⟩ := h; exact below_drewN (Below.refl B W) q
end
end Go.Proofs.Ythpaolhpkmgelaa
