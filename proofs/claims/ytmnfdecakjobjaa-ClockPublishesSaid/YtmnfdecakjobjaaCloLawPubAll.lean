/-
  The statement of layer 6 'timestamps are published in order in every schedule' returns true for every number of threads, limit and list of picks. Condition: the list of picks within the model's reach.
-/
import Derived.Test.YtmnfdecakjobjaaCloLawPub
namespace Go.Proofs.Ytmnfdecakjobjaa
open Go.RowKit Go.Deep

theorem lawPub_all (w : World) (threads : Int) (limit : Nat) (hl : limit < 256) (A : Option Addr) (c : Nat) (ps : List Nat) (hm : ps.length ≤ maxLen) (hps : ∀ x ∈ ps, x < 256)
    (hA : 0 < ps.length → ∃ g off, A = some ⟨g, off, none⟩ ∧ g < w.heap.size ∧ ∀ (j p : Nat), ps[j]? = some p → w.cell? ⟨g, off + j, none⟩ = some (.int .u8 (p : Int))) :
    Calls Try.prog 3 #[.int .i64 threads, .int .u8 (limit : Int), .slice A ps.length c] w fun e w' => e = .returned (.bool true) ∧ Below w.heap.size w w' := by
  by_cases h : ps.length ≤ 200
  · exact lawPub threads limit A c ps w hl h hps hA
  · exact lawPub_long threads limit A ps.length c w hl (by omega) hm
end Go.Proofs.Ytmnfdecakjobjaa
