/-
  What Page of a view answers. Condition: the kit's small configurations.
-/
import Derived.Test.YthpaolhpkmgelaaLkView
namespace Go.Proofs.Ythpaolhpkmgelaa
section
open Go.RowKit Go.Deep Plain
set_option linter.unusedVariables false

theorem Rs.one_at (w : World) (k : ByteArray) (r b : Nat) (h : w.heap.size = b) : Rs (w.alloc (.cells #[.string k, .int .u64 (r : Int)] 70)) (some ⟨b, 0, none⟩) 1 [(k, r)] := by subst h; exact Rs.one w k r
theorem field1 (a c : Int) (s : ByteArray) (w : World) : (Instr.field 50 (.agg #[.int .u64 a, .string s, .int .u64 c]) 1).run Try.prog w = .ok (.string s) w := by kernel_rfl
theorem field2 (a c : Int) (s : ByteArray) (w : World) : (Instr.field 50 (.agg #[.int .u64 a, .string s, .int .u64 c]) 2).run Try.prog w = .ok (.int .u64 c) w := by kernel_rfl
theorem hi_cell {hi : ByteArray} {la : Bool} (h : la = true → hi = ⟨#[]⟩) : ∃ m : Nat, hiCel hi la = (0, hi, (m : Int)) ∧ ((m : Int) == 1) = la := by
  unfold hiCel
  cases la
  · exact ⟨0, rfl, rfl⟩
  · rw [h rfl]; exact ⟨1, rfl, rfl⟩
end
end Go.Proofs.Ythpaolhpkmgelaa
