/-
  What Split of the reference of pages answers for a page of the lowest level. Condition: sizes within their limits.
-/
import Derived.Test.YtkpbbnpfdighjaaGreatLkRef
import Derived.Test.YtkpbbnpfdighjaaGreatLkKeys
import Derived.Test.YtkpbbnpfdighjaaGreatLkAux
namespace Go.Proofs.YtkpbbnpfdighjaaGreat
open Go.RowKit Go.Deep Plain
set_option linter.unusedVariables false

end Go.Proofs.YtkpbbnpfdighjaaGreat
