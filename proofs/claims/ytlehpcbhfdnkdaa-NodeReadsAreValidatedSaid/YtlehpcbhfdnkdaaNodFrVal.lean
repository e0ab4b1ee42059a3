/-
  The walk about validated reads, for every fanout. Condition: the form's own reach.
-/
import Derived.Test.YtlehpcbhfdnkdaaNodValOpens
import Derived.Test.YtlehpcbhfdnkdaaNodLawVal
namespace Go.Proofs.Ytlehpcbhfdnkdaa
open Go.RowKit Go.Deep Plain
theorem frValid (w : World) (f : Int) (pA : Option Addr) (N pC : Nat) (rs : List Rp) (hrs : rs.length = N) (hRw : Raws w pA rs) (kA : Option Addr) (np kC : Nat) (ps : List Nat) (hps : ps.length = np) (hpx : ∀ x ∈ ps, x < 256) (hpc : 0 < ps.length → ∃ g off, kA = some ⟨g, off, none⟩ ∧ g < w.heap.size ∧ ∀ (j x : Nat), ps[j]? = some x → w.cell? ⟨g, off + j, none⟩ = some (.int .u8 (x : Int))) :
    Calls Try.prog 4 #[.int .i64 f, .slice pA N pC, .slice kA np kC] w fun e w' => e = .returned (.bool true) ∧ Below w.heap.size w w' := by
  obtain ⟨F, h4, h6, hf⟩ := fan f
  exact lawVal w f F h4 h6 hf pA pC N rs hrs hRw kA kC np ps hps hpx hpc
end Go.Proofs.Ytlehpcbhfdnkdaa
