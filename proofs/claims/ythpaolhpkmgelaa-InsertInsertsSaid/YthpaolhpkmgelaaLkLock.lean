/-
  Package leaflock: a Lock's step phase by phase, with what the machine inside does as a hypothesis; NewLock and Held. Condition: the kit's small configurations.
-/
import Derived.Test.YthpaolhpkmgelaaLkFind
import Derived.Test.YthpaolhpkmgelaaLkLatch
namespace Go.Proofs.Ythpaolhpkmgelaa
open Go.RowKit Go.Deep Plain
set_option linter.unusedVariables false

end Go.Proofs.Ythpaolhpkmgelaa
