/-
  A Find a step at a time, and what it answers. Condition: the kit's small configurations; fewer than 2^63 accesses.
-/
import Derived.Test.YthpaolhpkmgelaaLkWalk
namespace Go.Proofs.Ythpaolhpkmgelaa
section
open Go.RowKit Go.Deep Plain
set_option linter.unusedVariables false

/-- Node n holds the page P, and its latch is not changing. -/
structure Nd (F : Nat) (l : List Cel) (n : Nat) (P : Pg) : Prop where
  ne : n ≠ 0
  holds : Holds (nad F n) l P
  lat : ∃ wd : Nat, (cellAt l (nla F n)).1 = (wd : Int) ∧ ¬ wd / 2 % 2 = 1
  wf : Wf P
  len : P.xs.length ≤ F
  asc : Asc P.xs
theorem Nd.mid {F n : Nat} {l : List Cel} {P : Pg} (h : Nd F l n P) (hn : Nats l) {j : Nat} (hj : j < P.xs.length + 5) : (ralone F n l j).ph < 3 := by
  obtain ⟨wd, h1, h2⟩ := h.lat
  cases j with
  | zero => show rst0.ph < 3; decide
  | succ k =>
    rw [ralone_at hn h.holds h.wf h.len h1 h2 k (by omega)]
    show (if k = P.xs.length + 3 then 2 else 1) < 3
    split <;> omega
theorem Nd.fin {F n : Nat} {l : List Cel} {P : Pg} (h : Nd F l n P) (hn : Nats l) : (ralone F n l (P.xs.length + 5)).ph = 3 ∧ (ralone F n l (P.xs.length + 5)).s.pg = P := by
  obtain ⟨wd, h1, h2⟩ := h.lat
  have e := ralone_end hn h.holds h.wf h.len h1 h2 0
  rw [Nat.add_zero] at e
  rw [e]
  exact ⟨rfl, got_end P⟩

/-- The way of a walk from node n, whose page is P: so many steps until it ends at node t (0: nowhere). nx says what is done with a page: 1 it goes on to a node with a low key, 2 it has arrived, 3 it ends without a node. -/
inductive WPath (F : Nat) (l : List Cel) (nx : Pg → Nat × Nat × ByteArray) : Nat → Pg → ByteArray → Nat → Nat → ByteArray → Prop
  | here {n : Nat} {P : Pg} {lo : ByteArray} (h : Nd F l n P) (e : (nx P).1 = 2) : WPath F l nx n P lo (P.xs.length + 5) n lo
  | none {n : Nat} {P : Pg} {lo : ByteArray} (h : Nd F l n P) (e : (nx P).1 = 3) : WPath F l nx n P lo (P.xs.length + 5) 0 lo
  | go {n : Nat} {P P2 : Pg} {lo lo2 : ByteArray} {m d t : Nat} {lo3 : ByteArray} (h : Nd F l n P) (e : nx P = (1, m, lo2)) (p : WPath F l nx m P2 lo2 d t lo3) : WPath F l nx n P lo (P.xs.length + 5 + d) t lo3
theorem WPath.nd {F : Nat} {l : List Cel} {nx : Pg → Nat × Nat × ByteArray} {n d t : Nat} {P : Pg} {lo lo2 : ByteArray} (h : WPath F l nx n P lo d t lo2) : Nd F l n P := by
  cases h <;> assumption
theorem WPath.len {F : Nat} {l : List Cel} {nx : Pg → Nat × Nat × ByteArray} {n d t : Nat} {P : Pg} {lo lo2 : ByteArray} (h : WPath F l nx n P lo d t lo2) : P.xs.length + 5 ≤ d := by
  cases h <;> omega
end

section
open Go.RowKit Go.Deep Plain
set_option linter.unusedVariables false

end

section
open Go.RowKit Go.Deep Plain
set_option linter.unusedVariables false

end
end Go.Proofs.Ythpaolhpkmgelaa
