/-
  Plain facts about worlds: a block whose cells are known whole; what a call that writes only to named blocks keeps; the cells of a list of records of three cells each. No program is spoken of. Condition: none.
-/
import Derived.WalkKit
import Derived.Below
import Derived.Deep.OwnRows
import Derived.Lib.Hide
import Derived.Deep.QuietTactic
import Derived.BigQuiet
namespace Go.Proofs.Ytddjggckmmdicaa
open Go.RowKit Go.Deep

/-- Block b holds just these cells, none of them frozen. -/
def Blk (w : World) (b : Nat) (t : TypeId) (xs : List Value) : Prop := w.heap[b]? = some (.cells ⟨xs⟩ t (0, 0))

theorem Blk.lt {w : World} {b : Nat} {t : TypeId} {xs : List Value} (h : Blk w b t xs) : b < w.heap.size := (Array.getElem?_eq_some_iff.1 h).1
theorem Blk.cell {w : World} {b : Nat} {t : TypeId} {xs : List Value} (h : Blk w b t xs) {i : Nat} {u : Value} (hi : xs[i]? = some u) : w.cell? ⟨b, i, none⟩ = some u := by
  unfold Blk at h; simp [World.cell?, h, hi]
theorem Blk.frozen {w : World} {b : Nat} {t : TypeId} {xs : List Value} (h : Blk w b t xs) (i : Nat) : w.frozen? ⟨b, i, none⟩ = false := by
  unfold Blk at h; simp [World.frozen?, h]
theorem Blk.of {w w' : World} {b : Nat} {t : TypeId} {xs : List Value} (h : Blk w b t xs) (e : w'.heap[b]? = w.heap[b]?) : Blk w' b t xs := e.trans h
theorem Blk.set {w : World} {b : Nat} {t : TypeId} {xs : List Value} (h : Blk w b t xs) (i : Nat) (v : Value) : Blk (w.setCell ⟨b, i, none⟩ v) b t (xs.set i v) := by
  unfold Blk at h ⊢
  simp [World.setCell, Array.getElem?_modify, h]
theorem Blk.other {w : World} {b : Nat} {t : TypeId} {xs : List Value} (h : Blk w b t xs) {a : Addr} (ha : b ≠ a.block) (v : Value) : Blk (w.setCell a v) b t xs := h.of (blk_setCell_other _ _ _ _ ha)
theorem Blk.alloc {w : World} {b : Nat} {t : TypeId} {xs : List Value} (h : Blk w b t xs) (o : Obj) : Blk (w.alloc o) b t xs := h.of (blk_alloc_lt _ _ _ h.lt)
theorem Blk.new (w : World) (xs : List Value) (t : TypeId) : Blk (w.alloc (.cells ⟨xs⟩ t)) w.heap.size t xs := blk_alloc_new _ _

/-- Nothing that was there has changed but the blocks of S. -/
structure Kept (S : Nat → Prop) (w w' : World) : Prop where
  os : w'.os = w.os
  tape : w'.tape = w.tape
  output : w'.output = w.output
  size : w.heap.size ≤ w'.heap.size
  block : ∀ k, k < w.heap.size → ¬ S k → w'.heap[k]? = w.heap[k]?

namespace Kept
variable {S T : Nat → Prop} {w w1 w2 : World}
theorem refl (S : Nat → Prop) (w : World) : Kept S w w := ⟨rfl, rfl, rfl, Nat.le_refl _, fun _ _ _ => rfl⟩
/-- The second step may write to what the first one made. -/
theorem trans (h : Kept S w w1) (k : Kept T w1 w2) (hT : ∀ i, i < w.heap.size → T i → S i) : Kept S w w2 :=
  ⟨k.os.trans h.os, k.tape.trans h.tape, k.output.trans h.output, Nat.le_trans h.size k.size,
   fun i hi hn => (k.block i (Nat.lt_of_lt_of_le hi h.size) (fun ht => hn (hT i hi ht))).trans (h.block i hi hn)⟩
theorem mono (h : Kept S w w1) (hS : ∀ i, S i → T i) : Kept T w w1 := ⟨h.os, h.tape, h.output, h.size, fun i hi hn => h.block i hi fun hs => hn (hS i hs)⟩
theorem drewN (h : Kept S w w1) (q : Nat) : Kept S w (w1.drewN q) := ⟨h.os, h.tape, h.output, h.size, h.block⟩
theorem drew (h : Kept S w w1) : Kept S w w1.drew := ⟨h.os, h.tape, h.output, h.size, h.block⟩
theorem ofDrew (h : Kept S w.drew w1) : Kept S w w1 := ⟨h.os, h.tape, h.output, h.size, h.block⟩
theorem alloc (h : Kept S w w1) (o : Obj) : Kept S w (w1.alloc o) := h.trans (T := fun _ => False) ⟨rfl, rfl, rfl, by simp, fun i hi _ => blk_alloc_lt _ _ _ hi⟩ (fun _ _ h => h.elim)
theorem setCell (h : Kept S w w1) {a : Addr} (ha : a.block < w.heap.size → S a.block) (v : Value) : Kept S w (w1.setCell a v) :=
  h.trans (T := fun i => i = a.block) ⟨rfl, rfl, rfl, by simp [World.setCell], fun i _ hn => blk_setCell_other _ _ _ _ hn⟩ (fun i hi e => by subst e; exact ha hi)
theorem setNew (h : Kept S w w1) {b : Nat} (hb : w.heap.size ≤ b) (i : Nat) (v : Value) : Kept S w (w1.setCell ⟨b, i, none⟩ v) := h.setCell (fun h => absurd h (Nat.not_lt.2 hb)) v
theorem blk (h : Kept S w w1) {b : Nat} {t : TypeId} {xs : List Value} (hb : Blk w b t xs) (hn : ¬ S b) : Blk w1 b t xs := hb.of (h.block b hb.lt hn)
theorem cell (h : Kept S w w1) {p : Addr} (hp : p.block < w.heap.size) (hn : ¬ S p.block) : w1.cell? p = w.cell? p := World.cell?_of_block (w := w) (h.block _ hp hn)
theorem below (h : Kept S w w1) {B : Nat} (hB : B ≤ w.heap.size) (hS : ∀ i, S i → B ≤ i) : Below B w w1 :=
  ⟨h.os, h.tape, h.output, h.size, fun i hi => h.block i (by omega) fun hs => by have := hS i hs; omega⟩
theorem grown {row : Option Nat} (h : Kept S w w1) (hg : w1.grownBy w2 row) (hr : ∀ k, row = some k → k < w.heap.size → S k) : Kept S w w2 :=
  h.trans (T := fun i => some i = row) ⟨hg.os, hg.tape, hg.output, hg.size, fun i hi hn => hg.block i hi hn⟩ (fun i hi e => hr i e.symm hi)
end Kept
theorem Kept.newBlk {w w' : World} {xs : List Value} {t : TypeId} (h : Kept (fun _ => False) (w.alloc (.cells ⟨xs⟩ t)).drew w') : Blk w' w.heap.size t xs := h.ofDrew.blk (Blk.new w xs t) id
theorem Below.kept {B : Nat} {w w' : World} (h : Below B w w') {S : Nat → Prop} (hS : ∀ i, i < w.heap.size → B ≤ i → S i) : Kept S w w' :=
  ⟨h.os, h.tape, h.output, h.size, fun i hi hn => h.block i (Nat.lt_of_not_le fun hB => hn (hS i hi hB))⟩

/-- A cell: two words and a string. -/
abbrev Cel := Int × ByteArray × Int
def cel0 : Cel := (0, ⟨#[]⟩, 0)
def celv (c : Cel) : List Value := [.int .u64 c.1, .string c.2.1, .int .u64 c.2.2]
def flat3 : List Cel → List Value
  | [] => []
  | c :: r => .int .u64 c.1 :: .string c.2.1 :: .int .u64 c.2.2 :: flat3 r
theorem flat3_length : ∀ l : List Cel, (flat3 l).length = l.length * 3
  | [] => rfl
  | c :: r => by simp [flat3, flat3_length r]; omega
theorem flat3_at : ∀ (l : List Cel) (i : Nat) (c : Cel), l[i]? = some c → (flat3 l)[i * 3]? = some (.int .u64 c.1) ∧ (flat3 l)[i * 3 + 1]? = some (.string c.2.1) ∧ (flat3 l)[i * 3 + 2]? = some (.int .u64 c.2.2)
  | [], i, c, h => by simp at h
  | d :: r, 0, c, h => by
    simp at h; subst h; simp [flat3]
  | d :: r, i + 1, c, h => by
    have := flat3_at r i c (by simpa using h)
    have e : (i + 1) * 3 = i * 3 + 1 + 1 + 1 := by omega
    rw [e]
    simp only [flat3, List.getElem?_cons_succ]
    exact this
theorem flat3_set : ∀ (l : List Cel) (i : Nat) (c : Cel), flat3 (l.set i c) = (((flat3 l).set (i * 3) (.int .u64 c.1)).set (i * 3 + 1) (.string c.2.1)).set (i * 3 + 2) (.int .u64 c.2.2)
  | [], i, c => by simp [flat3]
  | d :: r, 0, c => by simp [flat3]
  | d :: r, i + 1, c => by
    have e : (i + 1) * 3 = i * 3 + 1 + 1 + 1 := by omega
    rw [e]
    simp only [flat3, List.set_cons_succ, flat3_set r i c]
theorem flat3_append : ∀ a b : List Cel, flat3 (a ++ b) = flat3 a ++ flat3 b
  | [], _ => rfl
  | c :: r, b => by simp [flat3, flat3_append r b]
/-- The content of cell i; a zero cell where there is none. -/
def cellAt (l : List Cel) (i : Int) : Cel := if 0 ≤ i then l.getD i.toNat cel0 else cel0
def isIn (l : List Cel) (i : Int) : Bool := decide (0 ≤ i ∧ i < l.length)
/-- The list behind a store. -/
def putAt (l : List Cel) (i : Int) (c : Cel) : List Cel := if 0 ≤ i then l.set i.toNat c else l
theorem putAt_length (l : List Cel) (i : Int) (c : Cel) : (putAt l i c).length = l.length := by unfold putAt; split <;> simp
theorem cellAt_in (l : List Cel) (i : Nat) (h : i < l.length) : cellAt l i = l[i] := by
  unfold cellAt; rw [if_pos (by omega)]; simp [List.getD_eq_getElem?_getD, h]
theorem cellAt_out (l : List Cel) (i : Int) (h : i < 0 ∨ l.length ≤ i) : cellAt l i = cel0 := by
  unfold cellAt; split
  · rw [List.getD_eq_getElem?_getD, List.getElem?_eq_none (by omega)]; rfl
  · rfl
theorem putAt_in (l : List Cel) (i : Nat) (c : Cel) : putAt l i c = l.set i c := by unfold putAt; rw [if_pos (by omega)]; simp
theorem putAt_out (l : List Cel) (i : Int) (c : Cel) (h : i < 0 ∨ l.length ≤ i) : putAt l i c = l := by
  unfold putAt; split
  · exact List.set_eq_of_length_le (by omega)
  · rfl

end Go.Proofs.Ytddjggckmmdicaa
