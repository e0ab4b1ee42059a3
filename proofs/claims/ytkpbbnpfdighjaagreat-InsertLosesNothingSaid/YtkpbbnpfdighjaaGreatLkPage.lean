/-
  What Page of a view answers. Condition: the kit's small configurations.
-/
import Derived.Test.YtkpbbnpfdighjaaGreatLkView
namespace Go.Proofs.YtkpbbnpfdighjaaGreat
section
open Go.RowKit Go.Deep Plain
set_option linter.unusedVariables false

end
end Go.Proofs.YtkpbbnpfdighjaaGreat
