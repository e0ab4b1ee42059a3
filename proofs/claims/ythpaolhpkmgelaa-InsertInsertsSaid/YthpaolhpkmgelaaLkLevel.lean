/-
  What Level of a view answers on a tree. Condition: the kit's small configurations.
-/
import Derived.Test.YthpaolhpkmgelaaLkPlant
namespace Go.Proofs.Ythpaolhpkmgelaa
section
open Go.RowKit Go.Deep Plain
set_option linter.unusedVariables false

/-- The first slot of the first node above refers to the first node. -/
theorem Tr.first {F H : Nat} {l : List Cel} {st mm : Nat → Nat} {lo : Nat → Nat → ByteArray} {pg : Nat → Nat → Pg} (T : Tr F l H st mm lo pg) {L : Nat} (hL : L + 1 < H) : (pg (L + 1) 0).xs[0]? = some (⟨#[]⟩, st L) := by
  have V := T.lev (L + 1) hL
  have V2 := T.lev L (by omega)
  obtain ⟨⟨r, h0⟩, hx⟩ := T.up L hL 0 V.pos
  obtain ⟨j, hj, he⟩ := hx _ (List.mem_of_getElem? h0)
  rw [V.low0] at he h0
  have h1 : lo L j = ⟨#[]⟩ := by injection he with a; exact a.symm
  have hj0 : j = 0 := by
    rcases Nat.eq_zero_or_pos j with e | e
    · exact e
    · have := V2.mono e hj
      rw [h1] at this
      rw [kl_nil] at this; cases this
  subst hj0
  rw [h0, he, h1]; rfl
end
end Go.Proofs.Ythpaolhpkmgelaa
