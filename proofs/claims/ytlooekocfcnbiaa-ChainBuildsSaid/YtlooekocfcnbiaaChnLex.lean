/-
  The great regions of layer 10's statements may be walked in the order of the text. Condition: none.
-/
import Derived.Test.YtlooekocfcnbiaaRows
import Derived.Test.YtlooekocfcnbiaaLexSum
namespace Go.Proofs.Ytlooekocfcnbiaa
open Go.RowKit

/-- The operations of a code's region number id. -/
def opsOf (id : Nat) : Code → Option (Array Oper)
  | .region i ops _ => if i == id then some ops else none
  | .seq a b => (opsOf id a).orElse fun _ => opsOf id b
  | .cond _ a b => (opsOf id a).orElse fun _ => opsOf id b
  | .block _ b => opsOf id b
  | .loop b => opsOf id b
  | .rangeFunc _ _ a b => (opsOf id a).orElse fun _ => opsOf id b
  | .scope b => opsOf id b
  | _ => none
def opsAt (f : Func) (id : Nat) : List Oper := (((f.body.getD .skip) |> opsOf id).getD #[]).toList

def sumBuilds30 : List Sm := [(some 126, [18], []), (some 127, [126], [0]), (some 128, [19], []), (some 129, [127, 128], [1, 2]), (some 130, [129], [3, 1]), (some 131, [20, 130], [4]), (some 132, [131, 130], [5, 4]), (some 133, [7, 130], [4]), (some 134, [133, 130], [7, 4]), (some 135, [134, 130], [8, 4]), (some 136, [132, 135, 130], [6, 9, 4]), (some 137, [130, 136], [4, 10]), (some 138, [137], [11, 4]), (some 139, [20, 138], [12]), (some 140, [139, 138], [13, 12]), (some 141, [140, 138], [14, 12]), (some 142, [17, 138], [12]), (some 143, [142, 138], [16, 12]), (some 144, [17, 138], [12]), (some 145, [144, 138], [18, 12]), (some 146, [143, 145, 138], [17, 19, 12]), (some 147, [141, 146, 138], [15, 20, 12]), (some 148, [138, 147], [12, 21]), (some 149, [148], [22, 12]), (some 150, [20, 149], [23]), (some 151, [150, 149], [24, 23]), (some 152, [7, 149], [23]), (some 153, [151, 152, 149], [25, 26, 23, 23]), (some 154, [153, 149], [27, 23]), (some 155, [149, 154], [23, 28])]
theorem saidBuilds30 : (opsAt Try.f3 30).toArray.toList.map (smd .any (opsAt Try.f3 30).toArray) = sumBuilds30 := by kernel_rfl
theorem noneBuilds30 : Region.noSelect (opsAt Try.f3 30).toArray = true := by kernel_rfl
theorem pairsBuilds30 : lexPairs 0 sumBuilds30 = true := by kernel_rfl
theorem lexBuilds30 : Region.lexB .any (opsAt Try.f3 30).toArray = true := lexB_of sumBuilds30 saidBuilds30 noneBuilds30 pairsBuilds30

end Go.Proofs.Ytlooekocfcnbiaa
