/-
 What package keys, the kit's Keys and its references answer. Condition: keys within the model's reach.
-/
import Derived.Test.YtjnodgebpklaoaaGreatRows
import Derived.Test.YtjnodgebpklaoaaGreatLkPlain
import Derived.WalkSpells
import Derived.WalkLawsBesides
import Derived.Lib.Strings
namespace Go.Proofs.YtjnodgebpklaoaaGreat
set_option maxHeartbeats 8000000
set_option maxRecDepth 100000
section
open Go.RowKit Go.Deep Plain
set_option linter.unusedVariables false

theorem len_toList (a : ByteArray) : a.toList.length = a.size := by rw [Lib.toList_data, ← Lib.size_eq]

theorem getD_toList (a : ByteArray) (k : Nat) (h : k < a.size) : a.toList.getD k 0 = a[k] := by
 rw [Lib.toList_data, List.getD_eq_getElem?_getD, List.getElem?_eq_getElem (by rw [← Lib.size_eq]; exact h)]
 simp only [Option.getD_some, Array.getElem_toList]
 rfl

theorem take_toList (b : ByteArray) (k : Nat) : (b.extract 0 k).toList = b.toList.take k := by
 rw [Lib.extract_toList, Lib.toList_data]; simp

def sepB (a b : ByteArray) : ByteArray := if ltB a.toList b.toList then b.extract 0 (com a.toList b.toList + 1) else ByteArray.empty

theorem sepB_toList (a b : ByteArray) : (sepB a b).toList = sep a.toList b.toList := by
 unfold sepB sep; split
 ·exact take_toList _ _
 ·rw [Lib.toList_data]; rfl

theorem within_any (key low high : ByteArray) (last : Bool) (w : World) :
  Calls Tryz.prog 105 #[.string key, .string low, .string high, .bool last] w fun e w' => e = .returned (.bool (!ltB key.toList low.toList && (last || ltB key.toList high.toList))) ∧ w = w' := by
 rw [← bytesLess_ltB, ← bytesLess_ltB]
 cases last <;> cases h : Op.bytesLess key.toList low.toList
 all_goals
  go_enter Tryz.func105, Tryz.ntmps105
  go_wp2
  go_ret
  exact ⟨by simp, rfl⟩

end

section
open Go.RowKit Plain PlainE

def Rdv (w : World) (B : Nat) (v : Value) (n : Nat) (xs : List Value) : Prop :=
 ∃ A c, v = .slice A n c ∧ n ≤ c ∧ c ≤ maxLen ∧ (0 < n → ∃ g off, A = some ⟨g, off, none⟩ ∧ g < B ∧ ∀ j u, xs[j]? = some u → w.cell? ⟨g, off + j, none⟩ = some u)
theorem Tryz.info185 : (Tryz.prog.info? 185).map (fun i => (i.zero, i.size, i.bytes)) = some (some (.agg #[.string ByteArray.empty, .string ByteArray.empty]), 2, 32) := by kernel_rfl

end

section
open Go.RowKit Plain PlainE

namespace PlainE
def keyCells (l : List Ent) : List Value := l.map fun x => .string x.1
end PlainE

theorem Tryz.info9 : (Tryz.prog.info? 9).map (fun i => (i.zero, i.size, i.bytes)) = some (some (.string ByteArray.empty), 1, 16) := by kernel_rfl

end
end Go.Proofs.YtjnodgebpklaoaaGreat
