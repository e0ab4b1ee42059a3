/-
  The walk from node to node of package descent. Condition: the kit's small configurations; fewer than 2^63 accesses.
-/
import Derived.Test.YthpaolhpkmgelaaLkRead
import Derived.Test.YthpaolhpkmgelaaLkPag
import Derived.Test.YthpaolhpkmgelaaLkKeys
import Derived.Test.YthpaolhpkmgelaaLkPlain
namespace Go.Proofs.Ythpaolhpkmgelaa
section
open Go.RowKit Go.Deep Plain
set_option linter.unusedVariables false

end

section
open Go.RowKit Go.Deep Plain
set_option linter.unusedVariables false

end
end Go.Proofs.Ythpaolhpkmgelaa
