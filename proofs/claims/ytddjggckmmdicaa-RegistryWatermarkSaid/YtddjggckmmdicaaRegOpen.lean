/-
  Package registry: the machines Open and Release, step by step, and what makes them. Condition: sizes within their limits; fewer than 2^63 accesses so far.
-/
import Derived.Test.YtddjggckmmdicaaRegRow
namespace Go.Proofs.Ytddjggckmmdicaa
open Go.RowKit Go.Deep
set_option linter.unusedVariables false

/-- The cells of an Open: its phase, its cell, the Now inside. -/
def openv (p : Nat) (i : Int) (q : Nat) : List Value := [.int .i64 (p : Int), .int .i64 i, .pointer (some ⟨q, 0, none⟩)]
def relv (i : Int) (r : Bool) : List Value := [.int .i64 i, .bool r]
theorem keepOpen {b g o : Nat} {W w' : World} {v0 v1 v2 : Value} (hK : Kept (Own b g) W.drew w') (ho : ¬ Own b g o) (hol : o < W.heap.size) (c0 : W.cell? ⟨o, 0, none⟩ = some v0) (c1 : W.cell? ⟨o, 1, none⟩ = some v1) (c2 : W.cell? ⟨o, 2, none⟩ = some v2) :
    w'.cell? ⟨o, 0, none⟩ = some v0 ∧ w'.cell? ⟨o, 1, none⟩ = some v1 ∧ w'.cell? ⟨o, 2, none⟩ = some v2 :=
  ⟨(hK.ofDrew.cell (p := ⟨o, 0, none⟩) hol ho).trans c0, (hK.ofDrew.cell (p := ⟨o, 1, none⟩) hol ho).trans c1, (hK.ofDrew.cell (p := ⟨o, 2, none⟩) hol ho).trans c2⟩

end Go.Proofs.Ytddjggckmmdicaa
