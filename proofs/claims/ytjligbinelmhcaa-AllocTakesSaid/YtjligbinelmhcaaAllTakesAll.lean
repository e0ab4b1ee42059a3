/-
  The statement of layer 5 'numbers are taken once and without a gap' returns true for every number, limit, first value and list of picks. Condition: the list of picks within the model's reach.
-/
import Derived.Test.YtjligbinelmhcaaAllTakes
namespace Go.Proofs.Ytjligbinelmhcaa
open Go.RowKit Go.Deep

theorem lawTakes_all (w : World) (machines : Int) (limit : Nat) (hl : limit < 256) (first : Nat) (hf : first < 256) (A : Option Addr) (c : Nat) (ps : List Nat) (hm : ps.length ≤ maxLen) (hps : ∀ x ∈ ps, x < 256)
    (hA : 0 < ps.length → ∃ g off, A = some ⟨g, off, none⟩ ∧ g < w.heap.size ∧ ∀ (j p : Nat), ps[j]? = some p → w.cell? ⟨g, off + j, none⟩ = some (.int .u8 (p : Int))) :
    Calls Try.prog 3 #[.int .i64 machines, .int .u8 (limit : Int), .int .u8 (first : Int), .slice A ps.length c] w fun e w' => e = .returned (.bool true) ∧ Below w.heap.size w w' := by
  by_cases h : ps.length ≤ 100
  · exact lawTakes machines limit first A c ps w hl hf h hps hA
  · exact lawTakes_long machines limit first A ps.length c w (by omega) hm
end Go.Proofs.Ytjligbinelmhcaa
