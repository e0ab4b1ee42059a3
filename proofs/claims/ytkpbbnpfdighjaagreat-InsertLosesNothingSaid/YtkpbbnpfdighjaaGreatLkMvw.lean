/-
  The world of the law while its owner splits node 1 and a Lock waits for it: each step of a machine as a contract from this predicate to itself. Condition: a fanout of four to six.
-/
import Derived.Test.YtkpbbnpfdighjaaGreatLkMvp
namespace Go.Proofs.YtkpbbnpfdighjaaGreat
open Go.RowKit Go.Deep Plain
set_option linter.unusedVariables false

/-- How many stores of the Write are made. -/
def jW (n : Nat) : Nat → Nat → Nat
  | 0, _ => 0
  | 1, j => j
  | _, _ => n
structure MW0 (F n0 B b g : Nat) (W0 : World) (fb fd : Int) (key : ByteArray) (P Q R : Pg) (x qf qw rr : Nat) (st j : Nat) (pz : Bool) (s : Ls) (k : Nat) (w : World) (l : List Cel) (ac r0 : Nat) (p1 : Value) (Zx Zf Zw : Nat → Prop) (col : Nat → Nat) : Prop where
  plain : Mvx F n0 key P Q R st j l s
  mem : Mem w b g l ac
  ac : ac ≤ k
  lock : LAt Zx w F fb fd x key 0 s
  fr : st = 0 → Stm Zf w qf 108 (frs F R) j 2 1 R
  wr : pz = false → Stm Zw w qw 110 (wrs F P Q) (jW (wrs F P Q).length st j) 1 5 Q
  row : Blk w rr 57 [.pointer (some ⟨r0, 0, none⟩), p1]
  r0m : st < 3 → RelB w r0 (nla F 2) 1 false
  r1m : pz = true → st < 4 → ∃ r1, p1 = .pointer (some ⟨r1, 0, none⟩) ∧ RelB w r1 (nla F 1) 5 false ∧ col r1 = 7
  cb : col b = 1
  cg : col g = 1
  cx : ∀ i, Zx i → col i = 2
  cf : ∀ i, Zf i → col i = 3
  cw : ∀ i, Zw i → col i = 4
  cr : col rr = 5
  c0 : col r0 = 6
  lo : ∀ i, col i ≠ 0 → (B ≤ i ∨ i = b ∨ i = g) ∧ i < w.heap.size
  out : Kept (fun i => B ≤ i ∨ i = b ∨ i = g) W0 w
/-- The world of the law's loop. -/
def MW (F n0 B b g : Nat) (W0 : World) (fb fd : Int) (key : ByteArray) (P Q R : Pg) (x qf qw rr : Nat) (st j : Nat) (pz : Bool) (s : Ls) (k : Nat) (w : World) : Prop :=
  ∃ (l : List Cel) (ac r0 : Nat) (p1 : Value) (Zx Zf Zw : Nat → Prop) (col : Nat → Nat), MW0 F n0 B b g W0 fb fd key P Q R x qf qw rr st j pz s k w l ac r0 p1 Zx Zf Zw col
section
variable {F n0 B b g : Nat} {W0 : World} {fb fd : Int} {key : ByteArray} {P Q R : Pg} {x qf qw rr : Nat} {st j : Nat} {pz : Bool} {s : Ls} {k : Nat} {w w' : World} {l : List Cel} {ac r0 : Nat} {p1 : Value} {Zx Zf Zw : Nat → Prop} {col : Nat → Nat}
/-- What only reads keeps all. -/
theorem MW.calm (H : MW F n0 B b g W0 fb fd key P Q R x qf qw rr st j pz s k w) (hk : Kept (fun _ => False) w w') : MW F n0 B b g W0 fb fd key P Q R x qf qw rr st j pz s k w' := by
  obtain ⟨l, ac, r0, p1, Zx, Zf, Zw, col, H⟩ := H
  exact ⟨l, ac, r0, p1, Zx, Zf, Zw, col, { plain := H.plain, mem := H.mem.kept hk id id, ac := H.ac, lock := H.lock.kept hk (fun _ _ h => h), fr := fun e => (H.fr e).kept hk (fun _ _ h => h), wr := fun e => (H.wr e).kept hk (fun _ _ h => h), row := hk.blk H.row id, r0m := fun e => hk.blk (H.r0m e) id, r1m := fun e1 e2 => (by obtain ⟨r1, h1, h2, h3⟩ := H.r1m e1 e2; exact ⟨r1, h1, hk.blk h2 id, h3⟩), cb := H.cb, cg := H.cg, cx := H.cx, cf := H.cf, cw := H.cw, cr := H.cr, c0 := H.c0, lo := fun i hi => ⟨(H.lo i hi).1, Nat.lt_of_lt_of_le (H.lo i hi).2 hk.size⟩, out := H.out.trans hk (fun _ _ h => h.elim) }⟩
end
end Go.Proofs.YtkpbbnpfdighjaaGreat
