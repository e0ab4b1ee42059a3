/-
  What an argument that is a word looks like. Condition: none beside the form's own reach.
-/
import Derived.Test.YthpaolhpkmgelaaLkOpens
namespace Go.Proofs.Ythpaolhpkmgelaa
theorem word_of {a : Int} (h : (Lit.int .u64 a).wf = true) : ∃ x : Nat, a = (x : Int) ∧ x < 18446744073709551616 := by
  simp [Lit.wf, IntKind.min, IntKind.max, IntKind.bits, IntKind.signed] at h; exact ⟨a.toNat, by omega, by omega⟩
end Go.Proofs.Ythpaolhpkmgelaa
