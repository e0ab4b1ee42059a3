/-
  Blocks, cells, pages, words and orders as plain data; rules for regions that draw their order. No program runs here. Condition: none.
-/
import Derived.WalkKit
import Derived.Below
import Derived.Deep.OwnRows
import Derived.Lib.Hide
import Derived.Deep.QuietTactic
import Derived.BigQuiet
import Derived.IntWalk
import GoSem.Op.String
import Derived.Lib.Strings
import Derived.StillTailTactics
import Derived.StillTail
import Derived.Deep.RegionHeld3
import Derived.Deep.AppendLies
import Derived.Laws.AppendOwnNone
import GoSem.Core.Next
namespace Go.Proofs.Ytodenkamlbihnaa
section
open Go.RowKit Go.Deep

/-- Block b holds just these cells, none of them frozen. -/
def Blk (w : World) (b : Nat) (t : TypeId) (xs : List Value) : Prop := w.heap[b]? = some (.cells ⟨xs⟩ t (0, 0))

theorem Blk.lt {w : World} {b : Nat} {t : TypeId} {xs : List Value} (h : Blk w b t xs) : b < w.heap.size := (Array.getElem?_eq_some_iff.1 h).1
theorem Blk.cell {w : World} {b : Nat} {t : TypeId} {xs : List Value} (h : Blk w b t xs) {i : Nat} {u : Value} (hi : xs[i]? = some u) : w.cell? ⟨b, i, none⟩ = some u := by
  unfold Blk at h; simp [World.cell?, h, hi]
theorem Blk.frozen {w : World} {b : Nat} {t : TypeId} {xs : List Value} (h : Blk w b t xs) (i : Nat) : w.frozen? ⟨b, i, none⟩ = false := by
  unfold Blk at h; simp [World.frozen?, h]
theorem Blk.of {w w' : World} {b : Nat} {t : TypeId} {xs : List Value} (h : Blk w b t xs) (e : w'.heap[b]? = w.heap[b]?) : Blk w' b t xs := e.trans h
theorem Blk.set {w : World} {b : Nat} {t : TypeId} {xs : List Value} (h : Blk w b t xs) (i : Nat) (v : Value) : Blk (w.setCell ⟨b, i, none⟩ v) b t (xs.set i v) := by
  unfold Blk at h ⊢
  simp [World.setCell, Array.getElem?_modify, h]
theorem Blk.other {w : World} {b : Nat} {t : TypeId} {xs : List Value} (h : Blk w b t xs) {a : Addr} (ha : b ≠ a.block) (v : Value) : Blk (w.setCell a v) b t xs := h.of (blk_setCell_other _ _ _ _ ha)
theorem Blk.alloc {w : World} {b : Nat} {t : TypeId} {xs : List Value} (h : Blk w b t xs) (o : Obj) : Blk (w.alloc o) b t xs := h.of (blk_alloc_lt _ _ _ h.lt)
theorem Blk.new (w : World) (xs : List Value) (t : TypeId) : Blk (w.alloc (.cells ⟨xs⟩ t)) w.heap.size t xs := blk_alloc_new _ _

/-- Nothing that was there has changed but the blocks of S. -/
structure Kept (S : Nat → Prop) (w w' : World) : Prop where
  os : w'.os = w.os
  tape : w'.tape = w.tape
  output : w'.output = w.output
  size : w.heap.size ≤ w'.heap.size
  block : ∀ k, k < w.heap.size → ¬ S k → w'.heap[k]? = w.heap[k]?

namespace Kept
variable {S T : Nat → Prop} {w w1 w2 : World}
theorem refl (S : Nat → Prop) (w : World) : Kept S w w := ⟨rfl, rfl, rfl, Nat.le_refl _, fun _ _ _ => rfl⟩
/-- The second step may write to what the first one made. -/
theorem trans (h : Kept S w w1) (k : Kept T w1 w2) (hT : ∀ i, i < w.heap.size → T i → S i) : Kept S w w2 :=
  ⟨k.os.trans h.os, k.tape.trans h.tape, k.output.trans h.output, Nat.le_trans h.size k.size,
   fun i hi hn => (k.block i (Nat.lt_of_lt_of_le hi h.size) (fun ht => hn (hT i hi ht))).trans (h.block i hi hn)⟩
theorem mono (h : Kept S w w1) (hS : ∀ i, S i → T i) : Kept T w w1 := ⟨h.os, h.tape, h.output, h.size, fun i hi hn => h.block i hi fun hs => hn (hS i hs)⟩
theorem drewN (h : Kept S w w1) (q : Nat) : Kept S w (w1.drewN q) := ⟨h.os, h.tape, h.output, h.size, h.block⟩
theorem drew (h : Kept S w w1) : Kept S w w1.drew := ⟨h.os, h.tape, h.output, h.size, h.block⟩
theorem ofDrew (h : Kept S w.drew w1) : Kept S w w1 := ⟨h.os, h.tape, h.output, h.size, h.block⟩
theorem alloc (h : Kept S w w1) (o : Obj) : Kept S w (w1.alloc o) := h.trans (T := fun _ => False) ⟨rfl, rfl, rfl, by simp, fun i hi _ => blk_alloc_lt _ _ _ hi⟩ (fun _ _ h => h.elim)
theorem setCell (h : Kept S w w1) {a : Addr} (ha : a.block < w.heap.size → S a.block) (v : Value) : Kept S w (w1.setCell a v) :=
  h.trans (T := fun i => i = a.block) ⟨rfl, rfl, rfl, by simp [World.setCell], fun i _ hn => blk_setCell_other _ _ _ _ hn⟩ (fun i hi e => by subst e; exact ha hi)
theorem setNew (h : Kept S w w1) {b : Nat} (hb : w.heap.size ≤ b) (i : Nat) (v : Value) : Kept S w (w1.setCell ⟨b, i, none⟩ v) := h.setCell (fun h => absurd h (Nat.not_lt.2 hb)) v
theorem blk (h : Kept S w w1) {b : Nat} {t : TypeId} {xs : List Value} (hb : Blk w b t xs) (hn : ¬ S b) : Blk w1 b t xs := hb.of (h.block b hb.lt hn)
theorem cell (h : Kept S w w1) {p : Addr} (hp : p.block < w.heap.size) (hn : ¬ S p.block) : w1.cell? p = w.cell? p := World.cell?_of_block (w := w) (h.block _ hp hn)
theorem below (h : Kept S w w1) {B : Nat} (hB : B ≤ w.heap.size) (hS : ∀ i, S i → B ≤ i) : Below B w w1 :=
  ⟨h.os, h.tape, h.output, h.size, fun i hi => h.block i (by omega) fun hs => by have := hS i hs; omega⟩
theorem grown {row : Option Nat} (h : Kept S w w1) (hg : w1.grownBy w2 row) (hr : ∀ k, row = some k → k < w.heap.size → S k) : Kept S w w2 :=
  h.trans (T := fun i => some i = row) ⟨hg.os, hg.tape, hg.output, hg.size, fun i hi hn => hg.block i hi hn⟩ (fun i hi e => hr i e.symm hi)
end Kept
theorem Kept.newBlk {w w' : World} {xs : List Value} {t : TypeId} (h : Kept (fun _ => False) (w.alloc (.cells ⟨xs⟩ t)).drew w') : Blk w' w.heap.size t xs := h.ofDrew.blk (Blk.new w xs t) id
theorem Below.kept {B : Nat} {w w' : World} (h : Below B w w') {S : Nat → Prop} (hS : ∀ i, i < w.heap.size → B ≤ i → S i) : Kept S w w' :=
  ⟨h.os, h.tape, h.output, h.size, fun i hi hn => h.block i (Nat.lt_of_not_le fun hB => hn (hS i hi hB))⟩

/-- A cell: two words and a string. -/
abbrev Cel := Int × ByteArray × Int
def cel0 : Cel := (0, ⟨#[]⟩, 0)
def celv (c : Cel) : List Value := [.int .u64 c.1, .string c.2.1, .int .u64 c.2.2]
def flat3 : List Cel → List Value
  | [] => []
  | c :: r => .int .u64 c.1 :: .string c.2.1 :: .int .u64 c.2.2 :: flat3 r
theorem flat3_length : ∀ l : List Cel, (flat3 l).length = l.length * 3
  | [] => rfl
  | c :: r => by simp [flat3, flat3_length r]; omega
theorem flat3_at : ∀ (l : List Cel) (i : Nat) (c : Cel), l[i]? = some c → (flat3 l)[i * 3]? = some (.int .u64 c.1) ∧ (flat3 l)[i * 3 + 1]? = some (.string c.2.1) ∧ (flat3 l)[i * 3 + 2]? = some (.int .u64 c.2.2)
  | [], i, c, h => by simp at h
  | d :: r, 0, c, h => by
    simp at h; subst h; simp [flat3]
  | d :: r, i + 1, c, h => by
    have := flat3_at r i c (by simpa using h)
    have e : (i + 1) * 3 = i * 3 + 1 + 1 + 1 := by omega
    rw [e]
    simp only [flat3, List.getElem?_cons_succ]
    exact this
theorem flat3_set : ∀ (l : List Cel) (i : Nat) (c : Cel), flat3 (l.set i c) = (((flat3 l).set (i * 3) (.int .u64 c.1)).set (i * 3 + 1) (.string c.2.1)).set (i * 3 + 2) (.int .u64 c.2.2)
  | [], i, c => by simp [flat3]
  | d :: r, 0, c => by simp [flat3]
  | d :: r, i + 1, c => by
    have e : (i + 1) * 3 = i * 3 + 1 + 1 + 1 := by omega
    rw [e]
    simp only [flat3, List.set_cons_succ, flat3_set r i c]
theorem flat3_append : ∀ a b : List Cel, flat3 (a ++ b) = flat3 a ++ flat3 b
  | [], _ => rfl
  | c :: r, b => by simp [flat3, flat3_append r b]
/-- The content of cell i; a zero cell where there is none. -/
def cellAt (l : List Cel) (i : Int) : Cel := if 0 ≤ i then l.getD i.toNat cel0 else cel0
def isIn (l : List Cel) (i : Int) : Bool := decide (0 ≤ i ∧ i < l.length)
/-- The list behind a store. -/
def putAt (l : List Cel) (i : Int) (c : Cel) : List Cel := if 0 ≤ i then l.set i.toNat c else l
theorem putAt_length (l : List Cel) (i : Int) (c : Cel) : (putAt l i c).length = l.length := by unfold putAt; split <;> simp
theorem cellAt_in (l : List Cel) (i : Nat) (h : i < l.length) : cellAt l i = l[i] := by
  unfold cellAt; rw [if_pos (by omega)]; simp [List.getD_eq_getElem?_getD, h]
theorem cellAt_out (l : List Cel) (i : Int) (h : i < 0 ∨ l.length ≤ i) : cellAt l i = cel0 := by
  unfold cellAt; split
  · rw [List.getD_eq_getElem?_getD, List.getElem?_eq_none (by omega)]; rfl
  · rfl
theorem putAt_in (l : List Cel) (i : Nat) (c : Cel) : putAt l i c = l.set i c := by unfold putAt; rw [if_pos (by omega)]; simp
theorem putAt_out (l : List Cel) (i : Int) (c : Cel) (h : i < 0 ∨ l.length ≤ i) : putAt l i c = l := by
  unfold putAt; split
  · exact List.set_eq_of_length_le (by omega)
  · rfl
end

section
open Go.RowKit Go.Deep
set_option linter.unusedVariables false

theorem mul_bd (x y X Y : Int) (hx : 0 ≤ x) (hX : x ≤ X) (hy : 0 ≤ y) (hY : y ≤ Y) : 0 ≤ x * y ∧ x * y ≤ X * Y :=
  ⟨Int.mul_nonneg hx hy, Int.mul_le_mul hX hY hy (by omega)⟩

/-- The sizes of a configuration lie within their limits. -/
structure Lim (T S N C R F : Int) : Prop where
  t1 : 1 ≤ T
  t2 : T ≤ 64
  s1 : 1 ≤ S
  s2 : S ≤ 8
  n1 : 1 ≤ N
  n2 : N ≤ 4096
  c1 : 1 ≤ C
  c2 : C ≤ 16384
  r1 : 1 ≤ R
  r2 : R ≤ 65536
  f1 : 4 ≤ F
  f2 : F ≤ 32
/-- The first node, chain and record lie within reach. -/
structure Reach3 (a b d : Int) : Prop where
  a1 : 0 ≤ a
  a2 : a ≤ 1000000
  b1 : 0 ≤ b
  b2 : b ≤ 1000000
  d1 : 0 ≤ d
  d2 : d ≤ 1000000

def firstNode (T S : Int) : Int := 8 + T * S
def firstChain (T S N F : Int) : Int := firstNode T S + (N * F + N * 4)
def firstRecord (T S N C F : Int) : Int := firstChain T S N F + C
def allCells (T S N C R F : Int) : Int := firstRecord T S N C F + R * 3
def snapAt (T S t j : Int) : Int := if 0 ≤ t ∧ t < T ∧ 0 ≤ j ∧ j < S then 8 + t * S + j else -1
def nodeAt (N F a n part : Int) : Int := if 1 ≤ n ∧ n ≤ N then a + ((n - 1) * F + (n - 1) * 4) + part else -1
def slotAt (N F a n i : Int) : Int := if 0 ≤ i ∧ i < F then nodeAt N F a n (4 + i) else -1
def chainAt (C b n : Int) : Int := if 1 ≤ n ∧ n ≤ C then b + (n - 1) else -1
def recAt (R d n part : Int) : Int := if 1 ≤ n ∧ n ≤ R then d + (n - 1) * 3 + part else -1

theorem Lim.ts {T S N C R F : Int} (h : Lim T S N C R F) : 0 ≤ T * S ∧ T * S ≤ 512 := mul_bd T S 64 8 (by have := h.t1; omega) h.t2 (by have := h.s1; omega) h.s2
theorem Lim.nf {T S N C R F : Int} (h : Lim T S N C R F) : 0 ≤ N * F ∧ N * F ≤ 131072 := mul_bd N F 4096 32 (by have := h.n1; omega) h.n2 (by have := h.f1; omega) h.f2
theorem nf4 (N F : Int) : N * (F + 4) = N * F + N * 4 := Int.mul_add _ _ _
theorem Lim.reach {T S N C R F : Int} (h : Lim T S N C R F) : Reach3 (firstNode T S) (firstChain T S N F) (firstRecord T S N C F) := by
  have := h.ts; have := h.nf; have := h.n1; have := h.n2; have := h.c1; have := h.c2
  unfold firstRecord firstChain firstNode
  constructor <;> omega

section
variable {W w w' : World} {r s : Nat} {x0 x1 x2 x3 x4 x5 x6 x7 x8 x9 y0 y1 y2 y3 y4 y5 y6 : Value}
theorem keep7 (hk : Kept (fun _ => False) w w') (hr : s < W.heap.size)
    (h : Kept (fun _ => False) W w ∧ w.cell? ⟨s, 0, none⟩ = some y0 ∧ w.cell? ⟨s, 1, none⟩ = some y1 ∧ w.cell? ⟨s, 2, none⟩ = some y2 ∧ w.cell? ⟨s, 3, none⟩ = some y3 ∧ w.cell? ⟨s, 4, none⟩ = some y4 ∧ w.cell? ⟨s, 5, none⟩ = some y5 ∧ w.cell? ⟨s, 6, none⟩ = some y6) :
    Kept (fun _ => False) W w' ∧ w'.cell? ⟨s, 0, none⟩ = some y0 ∧ w'.cell? ⟨s, 1, none⟩ = some y1 ∧ w'.cell? ⟨s, 2, none⟩ = some y2 ∧ w'.cell? ⟨s, 3, none⟩ = some y3 ∧ w'.cell? ⟨s, 4, none⟩ = some y4 ∧ w'.cell? ⟨s, 5, none⟩ = some y5 ∧ w'.cell? ⟨s, 6, none⟩ = some y6 := by
  obtain ⟨hK, h0, h1, h2, h3, h4, h5, h6⟩ := h
  have hs : s < w.heap.size := Nat.lt_of_lt_of_le hr hK.size
  have e : ∀ i, w'.cell? ⟨s, i, none⟩ = w.cell? ⟨s, i, none⟩ := fun i => hk.cell (p := ⟨s, i, none⟩) hs id
  exact ⟨hK.trans hk (fun _ _ h => h), (e _).trans h0, (e _).trans h1, (e _).trans h2, (e _).trans h3, (e _).trans h4, (e _).trans h5, (e _).trans h6⟩
theorem keep10 (hk : Kept (fun _ => False) w w') (hr : r < W.heap.size)
    (h : Kept (fun _ => False) W w ∧ w.cell? ⟨r, 0, none⟩ = some x0 ∧ w.cell? ⟨r, 1, none⟩ = some x1 ∧ w.cell? ⟨r, 2, none⟩ = some x2 ∧ w.cell? ⟨r, 3, none⟩ = some x3 ∧ w.cell? ⟨r, 4, none⟩ = some x4 ∧ w.cell? ⟨r, 5, none⟩ = some x5 ∧ w.cell? ⟨r, 6, none⟩ = some x6 ∧ w.cell? ⟨r, 7, none⟩ = some x7 ∧ w.cell? ⟨r, 8, none⟩ = some x8 ∧ w.cell? ⟨r, 9, none⟩ = some x9) :
    Kept (fun _ => False) W w' ∧ w'.cell? ⟨r, 0, none⟩ = some x0 ∧ w'.cell? ⟨r, 1, none⟩ = some x1 ∧ w'.cell? ⟨r, 2, none⟩ = some x2 ∧ w'.cell? ⟨r, 3, none⟩ = some x3 ∧ w'.cell? ⟨r, 4, none⟩ = some x4 ∧ w'.cell? ⟨r, 5, none⟩ = some x5 ∧ w'.cell? ⟨r, 6, none⟩ = some x6 ∧ w'.cell? ⟨r, 7, none⟩ = some x7 ∧ w'.cell? ⟨r, 8, none⟩ = some x8 ∧ w'.cell? ⟨r, 9, none⟩ = some x9 := by
  obtain ⟨hK, h0, h1, h2, h3, h4, h5, h6, h7, h8, h9⟩ := h
  have hs : r < w.heap.size := Nat.lt_of_lt_of_le hr hK.size
  have e : ∀ i, w'.cell? ⟨r, i, none⟩ = w.cell? ⟨r, i, none⟩ := fun i => hk.cell (p := ⟨r, i, none⟩) hs id
  exact ⟨hK.trans hk (fun _ _ h => h), (e _).trans h0, (e _).trans h1, (e _).trans h2, (e _).trans h3, (e _).trans h4, (e _).trans h5, (e _).trans h6, (e _).trans h7, (e _).trans h8, (e _).trans h9⟩
theorem keep17 (hk : Kept (fun _ => False) w w') (hr : r < W.heap.size) (hs : s < W.heap.size)
    (h : Kept (fun _ => False) W w ∧ w.cell? ⟨r, 0, none⟩ = some x0 ∧ w.cell? ⟨r, 1, none⟩ = some x1 ∧ w.cell? ⟨r, 2, none⟩ = some x2 ∧ w.cell? ⟨r, 3, none⟩ = some x3 ∧ w.cell? ⟨r, 4, none⟩ = some x4 ∧ w.cell? ⟨r, 5, none⟩ = some x5 ∧ w.cell? ⟨r, 6, none⟩ = some x6 ∧ w.cell? ⟨r, 7, none⟩ = some x7 ∧ w.cell? ⟨r, 8, none⟩ = some x8 ∧ w.cell? ⟨r, 9, none⟩ = some x9 ∧ w.cell? ⟨s, 0, none⟩ = some y0 ∧ w.cell? ⟨s, 1, none⟩ = some y1 ∧ w.cell? ⟨s, 2, none⟩ = some y2 ∧ w.cell? ⟨s, 3, none⟩ = some y3 ∧ w.cell? ⟨s, 4, none⟩ = some y4 ∧ w.cell? ⟨s, 5, none⟩ = some y5 ∧ w.cell? ⟨s, 6, none⟩ = some y6) :
    Kept (fun _ => False) W w' ∧ w'.cell? ⟨r, 0, none⟩ = some x0 ∧ w'.cell? ⟨r, 1, none⟩ = some x1 ∧ w'.cell? ⟨r, 2, none⟩ = some x2 ∧ w'.cell? ⟨r, 3, none⟩ = some x3 ∧ w'.cell? ⟨r, 4, none⟩ = some x4 ∧ w'.cell? ⟨r, 5, none⟩ = some x5 ∧ w'.cell? ⟨r, 6, none⟩ = some x6 ∧ w'.cell? ⟨r, 7, none⟩ = some x7 ∧ w'.cell? ⟨r, 8, none⟩ = some x8 ∧ w'.cell? ⟨r, 9, none⟩ = some x9 ∧ w'.cell? ⟨s, 0, none⟩ = some y0 ∧ w'.cell? ⟨s, 1, none⟩ = some y1 ∧ w'.cell? ⟨s, 2, none⟩ = some y2 ∧ w'.cell? ⟨s, 3, none⟩ = some y3 ∧ w'.cell? ⟨s, 4, none⟩ = some y4 ∧ w'.cell? ⟨s, 5, none⟩ = some y5 ∧ w'.cell? ⟨s, 6, none⟩ = some y6 := by
  obtain ⟨hK, h0, h1, h2, h3, h4, h5, h6, h7, h8, h9, g0, g1, g2, g3, g4, g5, g6⟩ := h
  have hr' : r < w.heap.size := Nat.lt_of_lt_of_le hr hK.size
  have hs' : s < w.heap.size := Nat.lt_of_lt_of_le hs hK.size
  have e : ∀ i, w'.cell? ⟨r, i, none⟩ = w.cell? ⟨r, i, none⟩ := fun i => hk.cell (p := ⟨r, i, none⟩) hr' id
  have f : ∀ i, w'.cell? ⟨s, i, none⟩ = w.cell? ⟨s, i, none⟩ := fun i => hk.cell (p := ⟨s, i, none⟩) hs' id
  exact ⟨hK.trans hk (fun _ _ h => h), (e _).trans h0, (e _).trans h1, (e _).trans h2, (e _).trans h3, (e _).trans h4, (e _).trans h5, (e _).trans h6, (e _).trans h7, (e _).trans h8, (e _).trans h9, (f _).trans g0, (f _).trans g1, (f _).trans g2, (f _).trans g3, (f _).trans g4, (f _).trans g5, (f _).trans g6⟩
end
theorem Calls.still {P : Program} {f : FuncId} {args : Array Value} {w : World} {n : Nat} {v : Value} (h : Calls P f args (w.drewN n) fun e w' => e = .returned v ∧ w.drewN n = w') :
    Calls P f args (w.drewN n) fun e w'' => e = .returned v ∧ ∃ m, w'' = w.drewN m := h.mono fun _ _ ⟨he, hm⟩ => ⟨he, n, hm.symm⟩
end

end Go.Proofs.Ytodenkamlbihnaa
namespace Go.Proofs.Ytodenkamlbihnaa.Plain
section
open Go

/-- The order of strings, as a Bool on lists of bytes. -/
def ltB : List UInt8 → List UInt8 → Bool
  | _, [] => false
  | [], _ :: _ => true
  | a :: x, b :: y => a < b || (a == b && ltB x y)

theorem bytesLess_ltB : ∀ x y : List UInt8, Op.bytesLess x y = ltB x y
  | [], [] => rfl
  | [], _ :: _ => rfl
  | _ :: _, [] => rfl
  | a :: x, b :: y => by rw [Op.bytesLess, ltB, bytesLess_ltB x y]

theorem ltB_nil (x : List UInt8) : ltB x [] = false := by cases x <;> rfl
theorem ltB_cons (a b : UInt8) (x y : List UInt8) : ltB (a :: x) (b :: y) = (decide (a < b) || (a == b && ltB x y)) := rfl

theorem ltB_cons_iff (a b : UInt8) (x y : List UInt8) : ltB (a :: x) (b :: y) = true ↔ (a.toNat < b.toNat ∨ (a = b ∧ ltB x y = true)) := by
  rw [ltB_cons]; simp [UInt8.lt_iff_toNat_lt]
theorem ltB_cons_false (a b : UInt8) (x y : List UInt8) : ltB (a :: x) (b :: y) = false ↔ (b.toNat ≤ a.toNat ∧ (a = b → ltB x y = false)) := by
  rw [ltB_cons]; simp [UInt8.lt_iff_toNat_lt]

theorem ltB_self : ∀ x : List UInt8, ltB x x = false
  | [] => rfl
  | a :: x => by rw [ltB_cons_false]; exact ⟨Nat.le_refl _, fun _ => ltB_self x⟩

theorem u8_eq {a b : UInt8} (h : a.toNat = b.toNat) : a = b := UInt8.toNat_inj.mp h

theorem ltB_tri : ∀ x y : List UInt8, ltB x y = false → ltB y x = false → x = y
  | [], [], _, _ => rfl
  | [], _ :: _, h, _ => by simp [ltB] at h
  | _ :: _, [], _, h => by simp [ltB] at h
  | a :: x, b :: y, h, k => by
    rw [ltB_cons_false] at h k
    have e : a = b := u8_eq (by omega)
    rw [ltB_tri x y (h.2 e) (k.2 e.symm), e]

theorem ltB_trans : ∀ x y z : List UInt8, ltB x y = true → ltB y z = true → ltB x z = true
  | _, _, [], _, h => by rw [ltB_nil] at h; exact absurd h (by decide)
  | _, [], _ :: _, h, _ => by rw [ltB_nil] at h; exact absurd h (by decide)
  | [], _ :: _, _ :: _, _, _ => rfl
  | a :: x, b :: y, c :: z, h, k => by
    rw [ltB_cons_iff] at h k ⊢
    rcases h with h | ⟨rfl, h⟩
    · rcases k with k | ⟨rfl, k⟩
      · exact .inl (by omega)
      · exact .inl h
    · rcases k with k | ⟨rfl, k⟩
      · exact .inl k
      · exact .inr ⟨rfl, ltB_trans x y z h k⟩

theorem ltB_asymm (x y : List UInt8) (h : ltB x y = true) : ltB y x = false := by
  cases k : ltB y x
  · rfl
  · have := ltB_trans x y x h k; rw [ltB_self] at this; exact this.symm
/-- not below, below: below. -/
theorem le_lt (x y z : List UInt8) (h : ltB y x = false) (k : ltB y z = true) : ltB x z = true := by
  cases hx : ltB x y
  · rw [ltB_tri x y hx h]; exact k
  · exact ltB_trans x y z hx k
theorem lt_le (x y z : List UInt8) (h : ltB x y = true) (k : ltB z y = false) : ltB x z = true := by
  cases hx : ltB y z
  · rw [← ltB_tri y z hx k]; exact h
  · exact ltB_trans x y z h hx
theorem le_le (x y z : List UInt8) (h : ltB y x = false) (k : ltB z y = false) : ltB z x = false := by
  cases hx : ltB z x
  · rfl
  · have := lt_le z x y hx h; rw [k] at this; exact this.symm

/-! ### The next string -/
theorem lt_succ : ∀ x : List UInt8, ltB x (x ++ [0]) = true
  | [] => rfl
  | a :: x => by rw [List.cons_append, ltB_cons_iff]; exact .inr ⟨rfl, lt_succ x⟩
theorem succ_le : ∀ x y : List UInt8, ltB x y = true → ltB y (x ++ [0]) = false
  | _, [], h => by rw [ltB_nil] at h; exact absurd h (by decide)
  | [], b :: y, _ => by rw [List.nil_append, ltB_cons_false]; exact ⟨by simp, fun _ => ltB_nil y⟩
  | a :: x, b :: y, h => by
    rw [ltB_cons_iff] at h
    rw [List.cons_append, ltB_cons_false]
    rcases h with h | ⟨rfl, h⟩
    · exact ⟨by omega, fun e => by subst e; omega⟩
    · exact ⟨Nat.le_refl _, fun _ => succ_le x y h⟩

/-! ### The shared beginning -/
def com : List UInt8 → List UInt8 → Nat
  | a :: x, b :: y => if a = b then com x y + 1 else 0
  | _, _ => 0

theorem com_le : ∀ x y : List UInt8, com x y ≤ x.length ∧ com x y ≤ y.length
  | [], _ => by simp [com]
  | _ :: _, [] => by simp [com]
  | a :: x, b :: y => by
    have := com_le x y
    unfold com; split
    · simp; omega
    · simp

theorem com_lt : ∀ x y : List UInt8, ltB x y = true → com x y < y.length
  | _, [], h => by rw [ltB_nil] at h; exact absurd h (by decide)
  | [], b :: y, _ => by simp [com]
  | a :: x, b :: y, h => by
    rw [ltB_cons_iff] at h
    unfold com; split
    · rename_i e
      have := com_lt x y (by rcases h with h | h; · subst e; omega
                             · exact h.2)
      simp; omega
    · simp

/-- What the first k bytes have in common. -/
theorem com_step : ∀ (x y : List UInt8) (k : Nat), k ≤ com x y → (k = com x y ↔ ¬ (k < x.length ∧ k < y.length ∧ x.getD k 0 = y.getD k 0))
  | [], y, k, h => by simp [com] at h; subst h; simp [com]
  | a :: x, [], k, h => by simp [com] at h; subst h; simp [com]
  | a :: x, b :: y, 0, _ => by
    unfold com; split
    · rename_i e; subst e; simp
    · rename_i e; simp; exact e
  | a :: x, b :: y, k + 1, h => by
    unfold com at h ⊢; split
    · rename_i e
      rw [if_pos e] at h
      have := com_step x y k (by omega)
      simp only [List.length_cons, List.getD_cons_succ, Nat.add_right_cancel_iff, Nat.add_lt_add_iff_right]
      exact this
    · rename_i e; rw [if_neg e] at h; omega

/-! ### The shortest separator -/
theorem sep_lt : ∀ x y : List UInt8, ltB x y = true → ltB x (y.take (com x y + 1)) = true
  | _, [], h => by rw [ltB_nil] at h; exact absurd h (by decide)
  | [], b :: y, _ => by simp [com, ltB]
  | a :: x, b :: y, h => by
    rw [ltB_cons_iff] at h
    unfold com; split
    · rename_i e
      have k : ltB x y = true := by rcases h with h | h
                                    · subst e; omega
                                    · exact h.2
      rw [List.take_succ_cons, ltB_cons_iff]
      exact .inr ⟨e, sep_lt x y k⟩
    · rename_i e
      rw [List.take_succ_cons, ltB_cons_iff]
      rcases h with h | h
      · exact .inl h
      · exact absurd h.1 e

theorem sep_short : ∀ (x y : List UInt8) (k : Nat), k ≤ com x y → ltB x (y.take k) = false
  | x, y, 0, _ => by simp [ltB_nil]
  | [], y, k + 1, h => by simp [com] at h
  | a :: x, [], k + 1, h => by simp [com] at h
  | a :: x, b :: y, k + 1, h => by
    unfold com at h
    by_cases e : a = b
    · rw [if_pos e] at h
      rw [List.take_succ_cons, ltB_cons_false]
      exact ⟨by rw [e]; exact Nat.le_refl _, fun _ => sep_short x y k (by omega)⟩
    · rw [if_neg e] at h; omega

/-- A beginning is not greater. -/
theorem take_le : ∀ (y : List UInt8) (k : Nat), ltB y (y.take k) = false
  | _, 0 => by simp [ltB_nil]
  | [], k + 1 => by simp [ltB_nil]
  | b :: y, k + 1 => by rw [List.take_succ_cons, ltB_cons_false]; exact ⟨Nat.le_refl _, fun _ => take_le y k⟩

/-- What is not below y is not below a beginning of y. -/
theorem ge_take (x y : List UInt8) (k : Nat) (h : ltB x y = false) : ltB x (y.take k) = false := le_le (y.take k) y x (take_le y k) h

/-- The separator of two strings. -/
def sep (x y : List UInt8) : List UInt8 := if ltB x y then y.take (com x y + 1) else []

/-- -1, 0 or 1. -/
def cmp (x y : List UInt8) : Int := if ltB x y then -1 else if ltB y x then 1 else 0
end

end Go.Proofs.Ytodenkamlbihnaa.Plain
namespace Go.Proofs.Ytodenkamlbihnaa

end Go.Proofs.Ytodenkamlbihnaa
namespace Go.Proofs.Ytodenkamlbihnaa.Plain
section
open Go

/-- A slot: its key and its reference. -/
abbrev Sl := ByteArray × Nat
/-- The slots' cells, one behind the other. -/
def flat : List Sl → List Value
  | [] => []
  | x :: r => .string x.1 :: .int .u64 (x.2 : Int) :: flat r

theorem flat_length : ∀ xs : List Sl, (flat xs).length = xs.length * 2
  | [] => rfl
  | x :: r => by simp [flat, flat_length r]; omega
theorem flat_append : ∀ xs ys : List Sl, flat (xs ++ ys) = flat xs ++ flat ys
  | [], _ => rfl
  | x :: r, ys => by simp [flat, flat_append r ys]
theorem flat_at : ∀ (xs : List Sl) (k : Nat) (x : Sl), xs[k]? = some x → (flat xs)[k * 2]? = some (.string x.1) ∧ (flat xs)[k * 2 + 1]? = some (.int .u64 (x.2 : Int))
  | [], k, x, h => by simp at h
  | y :: r, 0, x, h => by simp at h; subst h; simp [flat]
  | y :: r, k + 1, x, h => by
    have := flat_at r k x (by simpa using h)
    have e : (k + 1) * 2 = k * 2 + 1 + 1 := by omega
    rw [e]
    simp only [flat, List.getElem?_cons_succ]
    exact this
theorem flat_set : ∀ (xs : List Sl) (k : Nat) (x : Sl), xs[k]? = some x → ∀ r : Nat, (flat xs).set (k * 2 + 1) (.int .u64 (r : Int)) = flat (xs.set k (x.1, r))
  | [], k, x, h, r => by simp at h
  | y :: ys, 0, x, h, r => by simp at h; subst h; simp [flat]
  | y :: ys, k + 1, x, h, r => by
    have e : (k + 1) * 2 + 1 = (k * 2 + 1) + 1 + 1 := by omega
    rw [e]
    simp only [flat, List.set_cons_succ, flat_set ys k x (by simpa using h) r]
theorem flat_one : ∀ (l : List Sl), ∀ u ∈ flat l, u.oneCell' = true
  | [], u, h => by simp [flat] at h
  | c :: r, u, h => by
    simp only [flat, List.mem_cons] at h
    rcases h with rfl | rfl | h
    · rfl
    · rfl
    · exact flat_one r u h

def lt (x : Sl) (k : ByteArray) : Bool := ltB x.1.toList k.toList
def eqk (x : Sl) (k : ByteArray) : Bool := x.1.toList == k.toList

theorem toList_inj {a b : ByteArray} (h : a.toList = b.toList) : a = b := by
  rw [Lib.toList_data, Lib.toList_data] at h
  obtain ⟨⟨a⟩⟩ := a
  obtain ⟨⟨b⟩⟩ := b
  simp only at h
  rw [h]

/-- Strictly ascending. -/
def Asc : List Sl → Prop
  | [] => True
  | [_] => True
  | x :: y :: r => lt x y.1 = true ∧ Asc (y :: r)

theorem asc_tail {x : Sl} : ∀ {r : List Sl}, Asc (x :: r) → Asc r
  | [], _ => trivial
  | _ :: _, h => h.2
theorem asc_head {x : Sl} : ∀ {r : List Sl}, Asc (x :: r) → ∀ y ∈ r, lt x y.1 = true
  | [], _, y, hy => by simp at hy
  | z :: r, h, y, hy => by
    rcases List.mem_cons.1 hy with rfl | hy
    · exact h.1
    · exact ltB_trans _ _ _ h.1 (asc_head h.2 y hy)
theorem asc_mk {x : Sl} {r : List Sl} (h : Asc r) (hx : ∀ y ∈ r, lt x y.1 = true) : Asc (x :: r) := by
  cases r with
  | nil => trivial
  | cons z r => exact ⟨hx z (by simp), h⟩

/-- How many keys lie below k. -/
def cnt (k : ByteArray) (xs : List Sl) : Nat := xs.countP (lt · k)
def has (k : ByteArray) (xs : List Sl) : Bool := xs.any (eqk · k)

theorem cnt_le (k : ByteArray) (xs : List Sl) : cnt k xs ≤ xs.length := List.countP_le_length
theorem cnt_yes {x : Sl} {k : ByteArray} {r : List Sl} (h : lt x k = true) : cnt k (x :: r) = cnt k r + 1 := by unfold cnt; exact List.countP_cons_of_pos (p := (lt · k)) h
theorem cnt_zero {k : ByteArray} {r : List Sl} (h : ∀ y ∈ r, lt y k = false) : cnt k r = 0 := by
  unfold cnt; rw [List.countP_eq_zero]; intro y hy; rw [h y hy]; decide
theorem after_ge {x : Sl} {k : ByteArray} {r : List Sl} (ha : Asc (x :: r)) (h : lt x k = false) : ∀ y ∈ r, lt y k = false := fun y hy => by
  cases hy' : lt y k
  · rfl
  · have := ltB_trans _ _ _ (asc_head ha y hy) hy'; rw [show lt x k = true from this] at h; cases h
theorem cnt_no {x : Sl} {k : ByteArray} {r : List Sl} (ha : Asc (x :: r)) (h : lt x k = false) : cnt k (x :: r) = 0 :=
  cnt_zero fun y hy => by
    rcases List.mem_cons.1 hy with rfl | hy
    · exact h
    · exact after_ge ha h y hy

/-- In an ascending row just the first so many keys lie below. -/
theorem lt_at : ∀ (xs : List Sl), Asc xs → ∀ (k : ByteArray) (i : Nat) (x : Sl), xs[i]? = some x → lt x k = decide (i < cnt k xs)
  | [], _, k, i, x, h => by simp at h
  | y :: r, ha, k, 0, x, h => by
    simp at h; subst h
    cases hy : lt y k
    · rw [cnt_no ha hy]; rfl
    · rw [cnt_yes hy]; simp
  | y :: r, ha, k, i + 1, x, h => by
    have h' : r[i]? = some x := by simpa using h
    cases hy : lt y k
    · rw [cnt_no ha hy, after_ge ha hy x (List.mem_of_getElem? h')]; rfl
    · rw [cnt_yes hy, lt_at r (asc_tail ha) k i x h']; simp

theorem eqk_not_lt {x : Sl} {k : ByteArray} (h : eqk x k = true) : lt x k = false := by
  unfold eqk at h; unfold lt
  rw [beq_iff_eq] at h; rw [h, ltB_self]
theorem eqk_eq {x : Sl} {k : ByteArray} (h : eqk x k = true) : x.1 = k := by unfold eqk at h; rw [beq_iff_eq] at h; exact toList_inj h
theorem eqk_self (k : ByteArray) (r : Nat) : eqk (k, r) k = true := by unfold eqk; simp
theorem eqk_no {a b : ByteArray} (h : a ≠ b) (r : Nat) : eqk (a, r) b = false := by
  cases hx : eqk (a, r) b
  · rfl
  · exact absurd (eqk_eq hx) h

/-- A key is there just if the slot behind those below it has it. -/
theorem has_at : ∀ (xs : List Sl), Asc xs → ∀ (k : ByteArray), has k xs = (match xs[cnt k xs]? with | some x => eqk x k | none => false)
  | [], _, k => rfl
  | y :: r, ha, k => by
    cases hy : lt y k
    · rw [cnt_no ha hy]
      simp only [List.getElem?_cons_zero]
      unfold has; rw [List.any_cons]
      cases he : eqk y k
      · rw [Bool.false_or, List.any_eq_false]
        intro z hz hzk
        have h1 := asc_head ha z hz
        have h2 := eqk_eq hzk
        rw [h2] at h1; rw [h1] at hy; cases hy
      · rfl
    · rw [cnt_yes hy, List.getElem?_cons_succ, ← has_at r (asc_tail ha) k]
      unfold has; rw [List.any_cons]
      cases he : eqk y k
      · rfl
      · rw [eqk_not_lt he] at hy; cases hy

theorem cnt_take {k : ByteArray} {xs : List Sl} {j : Nat} {x : Sl} (h : xs[j]? = some x) : cnt k (xs.take (j + 1)) = cnt k (xs.take j) + (if lt x k = true then 1 else 0) := by
  obtain ⟨hj, rfl⟩ := List.getElem?_eq_some_iff.1 h
  rw [List.take_succ_eq_append_getElem hj]; unfold cnt; rw [List.countP_append, List.countP_singleton]
theorem has_take {k : ByteArray} {xs : List Sl} {j : Nat} {x : Sl} (h : xs[j]? = some x) : has k (xs.take (j + 1)) = (has k (xs.take j) || eqk x k) := by
  obtain ⟨hj, rfl⟩ := List.getElem?_eq_some_iff.1 h
  rw [List.take_succ_eq_append_getElem hj]; unfold has; rw [List.any_append]; simp
theorem has_in {xs : List Sl} (ha : Asc xs) {k : ByteArray} (h : has k xs = true) : ∃ x, xs[cnt k xs]? = some x ∧ x.1 = k ∧ cnt k xs < xs.length := by
  rw [has_at xs ha k] at h
  split at h
  · rename_i x hx; exact ⟨x, hx, eqk_eq h, (List.getElem?_eq_some_iff.1 hx).1⟩
  · cases h

/-! ### Inserting -/
def ins (e : Sl) : List Sl → List Sl
  | [] => [e]
  | x :: r => if lt x e.1 = true then x :: ins e r else e :: x :: r

theorem ins_cut : ∀ (xs : List Sl) (e : Sl), Asc xs → ins e xs = xs.take (cnt e.1 xs) ++ e :: xs.drop (cnt e.1 xs)
  | [], e, _ => rfl
  | x :: r, e, ha => by
    unfold ins
    cases h : lt x e.1
    · rw [cnt_no ha h]; simp
    · rw [cnt_yes h]; simp [ins_cut r e (asc_tail ha)]
theorem ins_length : ∀ (e : Sl) (xs : List Sl), (ins e xs).length = xs.length + 1
  | e, [] => rfl
  | e, x :: r => by unfold ins; split <;> simp [ins_length e r]
theorem ins_mem {e y : Sl} : ∀ {xs : List Sl}, y ∈ ins e xs ↔ y = e ∨ y ∈ xs
  | [] => by simp [ins]
  | x :: r => by
    unfold ins; split
    · rw [List.mem_cons, ins_mem (xs := r), List.mem_cons]
      constructor
      · rintro (h | h | h)
        · exact .inr (.inl h)
        · exact .inl h
        · exact .inr (.inr h)
      · rintro (h | h | h)
        · exact .inr (.inl h)
        · exact .inl h
        · exact .inr (.inr h)
    · simp
theorem lt_of_not {x : Sl} {e : Sl} (h : lt x e.1 = false) (n : eqk x e.1 = false) : lt e x.1 = true := by
  cases hx : lt e x.1
  · have := ltB_tri _ _ h hx; unfold eqk at n; rw [this] at n; simp at n
  · rfl
theorem has_cons {k : ByteArray} {x : Sl} {r : List Sl} : has k (x :: r) = (eqk x k || has k r) := rfl
theorem ins_asc : ∀ (e : Sl) (xs : List Sl), Asc xs → has e.1 xs = false → Asc (ins e xs)
  | e, [], _, _ => trivial
  | e, x :: r, ha, hn => by
    rw [has_cons, Bool.or_eq_false_iff] at hn
    unfold ins
    cases h : lt x e.1
    · simp only [Bool.false_eq_true, if_false]
      refine asc_mk ha fun y hy => ?_
      rcases List.mem_cons.1 hy with rfl | hy
      · exact lt_of_not h hn.1
      · exact ltB_trans _ _ _ (lt_of_not h hn.1) (asc_head ha y hy)
    · simp only [if_true]
      refine asc_mk (ins_asc e r (asc_tail ha) hn.2) fun y hy => ?_
      rcases ins_mem.1 hy with rfl | hy
      · exact h
      · exact asc_head ha y hy
theorem ins_has (e : Sl) (k : ByteArray) : ∀ xs : List Sl, has k (ins e xs) = (eqk e k || has k xs)
  | [] => rfl
  | x :: r => by
    unfold ins; split
    · rw [has_cons, ins_has e k r, has_cons]; cases eqk x k <;> cases eqk e k <;> simp
    · rfl
theorem not_lt_self (e : Sl) : lt e e.1 = false := ltB_self _
theorem ins_cnt : ∀ (e : Sl) (xs : List Sl), Asc xs → cnt e.1 (ins e xs) = cnt e.1 xs
  | e, [], _ => by unfold ins; exact cnt_zero (by simp [not_lt_self])
  | e, x :: r, ha => by
    unfold ins
    cases h : lt x e.1
    · simp only [Bool.false_eq_true, if_false]
      rw [cnt_no ha h]
      refine cnt_zero fun y hy => ?_
      rcases List.mem_cons.1 hy with rfl | hy
      · exact not_lt_self _
      · rcases List.mem_cons.1 hy with rfl | hy
        · exact h
        · exact after_ge ha h y hy
    · simp only [if_true]
      rw [cnt_yes h, cnt_yes h, ins_cnt e r (asc_tail ha)]
theorem ins_at (e : Sl) (xs : List Sl) (ha : Asc xs) : (ins e xs)[cnt e.1 xs]? = some e := by
  have := cnt_le e.1 xs
  rw [ins_cut xs e ha, List.getElem?_append_right (by simp; omega), List.length_take, Nat.min_eq_left this]; simp

/-- Two slots can be inserted in either order. -/
theorem lt_either {a b : Sl} (h : a.1 ≠ b.1) : (lt a b.1 = true ∧ lt b a.1 = false) ∨ (lt a b.1 = false ∧ lt b a.1 = true) := by
  cases h1 : lt a b.1
  · cases h2 : lt b a.1
    · exact absurd (toList_inj (ltB_tri _ _ h1 h2)) h
    · exact .inr ⟨rfl, rfl⟩
  · exact .inl ⟨rfl, ltB_asymm _ _ h1⟩
theorem ins_comm : ∀ (a b : Sl) (xs : List Sl), Asc xs → a.1 ≠ b.1 → ins a (ins b xs) = ins b (ins a xs)
  | a, b, [], _, h => by
    rcases lt_either h with ⟨h1, h2⟩ | ⟨h1, h2⟩ <;> simp [ins, h1, h2]
  | a, b, x :: r, ha, h => by
    have hI := ins_comm a b r (asc_tail ha) h
    cases ha1 : lt x a.1 <;> cases hb1 : lt x b.1
    · rcases lt_either h with ⟨h1, h2⟩ | ⟨h1, h2⟩ <;> simp [ins, ha1, hb1, h1, h2]
    · have h2 : lt a b.1 = true := le_lt _ _ _ ha1 hb1
      simp [ins, ha1, hb1, h2]
    · have h2 : lt b a.1 = true := le_lt _ _ _ hb1 ha1
      simp [ins, ha1, hb1, h2]
    · simp only [ins, ha1, hb1, if_true, hI]

/-- What the reference has built when it stands at place j. -/
def insAt (e : Sl) (xs : List Sl) (q j : Nat) : List Sl := xs.take q ++ e :: (xs.drop q).take (j - q)
theorem insAt_start (e : Sl) (xs : List Sl) (q : Nat) : insAt e xs q q = xs.take q ++ [e] := by unfold insAt; rw [Nat.sub_self, List.take_zero]
theorem insAt_step {e : Sl} {xs : List Sl} {q j : Nat} {x : Sl} (hq : q ≤ j) (hx : xs[j]? = some x) : insAt e xs q (j + 1) = insAt e xs q j ++ [x] := by
  obtain ⟨hj, rfl⟩ := List.getElem?_eq_some_iff.1 hx
  have h1 : j - q < (xs.drop q).length := by rw [List.length_drop]; omega
  have h2 : (xs.drop q)[j - q] = xs[j] := by rw [List.getElem_drop]; congr 1; omega
  unfold insAt
  rw [show j + 1 - q = (j - q) + 1 by omega, List.take_succ_eq_append_getElem h1, h2]; simp
theorem insAt_end (e : Sl) (xs : List Sl) (q : Nat) : insAt e xs q xs.length = xs.take q ++ e :: xs.drop q := by
  have h : (xs.drop q).take (xs.length - q) = xs.drop q := List.take_of_length_le (by rw [List.length_drop]; exact Nat.le_refl _)
  unfold insAt; rw [h]
theorem take_step {xs : List Sl} {j : Nat} {x : Sl} (hx : xs[j]? = some x) : xs.take (j + 1) = xs.take j ++ [x] := by
  obtain ⟨hj, rfl⟩ := List.getElem?_eq_some_iff.1 hx
  exact List.take_succ_eq_append_getElem hj

/-! ### Removing -/
def gone (ks : List ByteArray) (x : Sl) : Bool := ks.any (fun k => k.toList == x.1.toList)
def rem (ks : List ByteArray) (xs : List Sl) : List Sl := xs.filter (fun x => !gone ks x)
theorem rem_length (ks : List ByteArray) (xs : List Sl) : (rem ks xs).length ≤ xs.length := List.length_filter_le _ _
theorem asc_filter (p : Sl → Bool) : ∀ {xs : List Sl}, Asc xs → Asc (xs.filter p)
  | [], _ => trivial
  | x :: r, h => by
    rw [List.filter_cons]
    split
    · exact asc_mk (asc_filter p (asc_tail h)) fun y hy => asc_head h y (List.mem_filter.1 hy).1
    · exact asc_filter p (asc_tail h)
theorem rem_asc (ks : List ByteArray) {xs : List Sl} (h : Asc xs) : Asc (rem ks xs) := asc_filter _ h
theorem rem_has (ks : List ByteArray) (xs : List Sl) {x : Sl} (hx : x ∈ xs) : has x.1 (rem ks xs) = !gone ks x := by
  cases hg : gone ks x
  · unfold has rem; rw [List.any_eq_true.2 ⟨x, List.mem_filter.2 ⟨hx, by simp [hg]⟩, eqk_self x.1 x.2⟩]; rfl
  · cases hh : has x.1 (rem ks xs)
    · rfl
    · unfold has rem at hh
      obtain ⟨y, hy, he⟩ := List.any_eq_true.1 hh
      have e := eqk_eq he
      have hy2 := (List.mem_filter.1 hy).2
      unfold gone at hg hy2
      rw [e, hg] at hy2; cases hy2
theorem rem_ins {e : Sl} {ks : List ByteArray} : ∀ {xs : List Sl}, gone ks e = true → rem ks (ins e xs) = rem ks xs
  | [], h => by unfold rem ins; simp [h]
  | x :: r, h => by
    have hI := rem_ins (xs := r) h
    unfold rem at hI
    unfold rem ins; split
    · rw [List.filter_cons, List.filter_cons, hI]
    · rw [List.filter_cons]; simp [h]
theorem rem_none {ks : List ByteArray} {xs : List Sl} (h : ∀ x ∈ xs, gone ks x = false) : rem ks xs = xs := by
  unfold rem; rw [List.filter_eq_self]; intro x hx; rw [h x hx]; rfl
theorem not_gone {k : ByteArray} {xs : List Sl} (h : has k xs = false) : ∀ x ∈ xs, (k.toList == x.1.toList) = false := fun x hx => by
  unfold has at h
  rw [List.any_eq_false] at h
  have := h x hx
  unfold eqk at this
  cases hk : k.toList == x.1.toList
  · rfl
  · rw [beq_iff_eq] at hk; rw [hk] at this; simp at this
theorem rem_one {k : ByteArray} {r : Nat} {xs : List Sl} (h : has k xs = false) : rem [k] (ins (k, r) xs) = xs := by
  rw [rem_ins (by simp [gone])]
  refine rem_none fun x hx => ?_
  unfold gone; simp only [List.any_cons, List.any_nil, Bool.or_false]; exact not_gone h x hx
theorem rem_two {a b : ByteArray} {r s : Nat} {xs : List Sl} (ha : has a xs = false) (hb : has b xs = false) : rem [a, b] (ins (b, s) (ins (a, r) xs)) = xs := by
  rw [rem_ins (by simp [gone]), rem_ins (by simp [gone])]
  refine rem_none fun x hx => ?_
  unfold gone; simp only [List.any_cons, List.any_nil, Bool.or_false]
  rw [not_gone ha x hx, not_gone hb x hx]; rfl

/-! ### A row put in order -/
def putIn (l : List Sl) (x : Sl) : List Sl := if has x.1 l = true then l else ins x l
def sorted (xs : List Sl) : List Sl := xs.foldl putIn []
theorem putIn_asc {l : List Sl} (h : Asc l) (x : Sl) : Asc (putIn l x) := by
  unfold putIn; split
  · exact h
  · rename_i hn; exact ins_asc x l h (by simpa using hn)
theorem foldl_asc : ∀ (xs l : List Sl), Asc l → Asc (xs.foldl putIn l)
  | [], _, h => h
  | x :: r, _, h => foldl_asc r _ (putIn_asc h x)
theorem sorted_asc (xs : List Sl) : Asc (sorted xs) := foldl_asc xs [] trivial
theorem sorted_nil : sorted [] = [] := rfl
theorem sorted_snoc (xs : List Sl) (x : Sl) : sorted (xs ++ [x]) = putIn (sorted xs) x := by unfold sorted; rw [List.foldl_append]; rfl
theorem sorted_take (xs : List Sl) (k : Nat) (x : Sl) (h : xs[k]? = some x) : sorted (xs.take (k + 1)) = putIn (sorted (xs.take k)) x := by
  obtain ⟨hk, rfl⟩ := List.getElem?_eq_some_iff.1 h
  rw [List.take_succ_eq_append_getElem hk, sorted_snoc]
theorem putIn_length (l : List Sl) (x : Sl) : (putIn l x).length ≤ l.length + 1 := by
  unfold putIn; split
  · omega
  · rw [ins_length]; exact Nat.le_refl _
theorem foldl_length : ∀ (xs l : List Sl), (xs.foldl putIn l).length ≤ l.length + xs.length
  | [], _ => Nat.le_refl _
  | x :: r, l => by
    have h1 := foldl_length r (putIn l x)
    have h2 := putIn_length l x
    rw [List.foldl_cons, List.length_cons]; omega
theorem sorted_length (xs : List Sl) : (sorted xs).length ≤ xs.length := by have := foldl_length xs []; simpa [sorted] using this
theorem putIn_mem {l : List Sl} {x y : Sl} (h : y ∈ putIn l x) : y = x ∨ y ∈ l := by
  unfold putIn at h; split at h
  · exact .inr h
  · exact ins_mem.1 h
theorem foldl_mem {y : Sl} : ∀ (xs l : List Sl), y ∈ xs.foldl putIn l → y ∈ l ∨ y ∈ xs
  | [], _, h => .inl h
  | x :: r, l, h => by
    rcases foldl_mem r _ h with h | h
    · rcases putIn_mem h with h | h
      · exact .inr (by simp [h])
      · exact .inl h
    · exact .inr (by simp [h])
theorem sorted_mem {xs : List Sl} {y : Sl} (h : y ∈ sorted xs) : y ∈ xs := (foldl_mem xs [] h).resolve_left (by simp)

/-- References made valid. -/
def fix (x : Sl) : Sl := (x.1, x.2 % 1000 + 1)
theorem asc_map : ∀ {xs : List Sl}, Asc xs → Asc (xs.map fix)
  | [], _ => trivial
  | [_], _ => trivial
  | _ :: y :: r, h => ⟨h.1, asc_map (xs := y :: r) h.2⟩
end

end Go.Proofs.Ytodenkamlbihnaa.Plain
namespace Go.Proofs.Ytodenkamlbihnaa

section
open Go.RowKit Go.Deep Plain
set_option linter.unusedVariables false

/-- A page. -/
structure Pg where
  lv : Nat
  hi : ByteArray
  la : Bool
  rt : Nat
  xs : List Sl

/-- The page of an empty leaf that is the last one. -/
def pg0 : Pg := ⟨0, ⟨#[]⟩, true, 0, []⟩

/-- The address of the cell of a node that is read as number r (Head, High, Right, the slots). -/
def adr (N F a id : Int) (r : Nat) : Int := if r = 0 then nodeAt N F a id 1 else if r = 1 then nodeAt N F a id 2 else if r = 2 then nodeAt N F a id 3 else slotAt N F a id ((r : Int) - 3)

def hiCel (hi : ByteArray) (la : Bool) : Cel := if la = true then (0, ⟨#[]⟩, 1) else (0, hi, 0)
def slCel (x : Sl) : Cel := ((x.2 : Int), x.1, 0)
/-- What lies in the cell of a page that is read as number r. -/
def pc (P : Pg) (r : Nat) : Cel := if r = 0 then ((P.xs.length : Int), ⟨#[]⟩, (P.lv : Int)) else if r = 1 then hiCel P.hi P.la else if r = 2 then ((P.rt : Int), ⟨#[]⟩, 0) else
  match P.xs[r - 3]? with
  | some x => slCel x
  | none => cel0

/-- A store: an address and what is to be stored there. -/
abbrev Sto := Int × Cel
/-- The stores of a page. -/
def pst (ad : Nat → Int) (P : Pg) : List Sto := (List.range (P.xs.length + 3)).map fun r => (ad r, pc P r)
theorem pst_length (ad : Nat → Int) (P : Pg) : (pst ad P).length = P.xs.length + 3 := by unfold pst; simp
theorem pst_at (ad : Nat → Int) (P : Pg) (r : Nat) (h : r < P.xs.length + 3) : (pst ad P)[r]? = some (ad r, pc P r) := by
  unfold pst; rw [List.getElem?_map, List.getElem?_range h]; rfl

/-- Is a store of a list another one than that at the same place of the list before (or is there none)? -/
def news (fr : List Sto) (s : Sto) (i : Nat) : Bool := match fr[i]? with
  | some t => !(decide (s = t))
  | none => true
/-- The stores of the second list that are others than those of the first, of the first j. -/
def chgTo (fr to : List Sto) : Nat → List Sto
  | 0 => []
  | j + 1 => match to[j]? with
    | some s => if news fr s j = true then chgTo fr to j ++ [s] else chgTo fr to j
    | none => chgTo fr to j
def chg (fr to : List Sto) : List Sto := chgTo fr to to.length
theorem chgTo_step {fr to : List Sto} {j : Nat} {s : Sto} (h : to[j]? = some s) : chgTo fr to (j + 1) = if news fr s j = true then chgTo fr to j ++ [s] else chgTo fr to j := by
  simp only [chgTo, h]
theorem chgTo_length (fr to : List Sto) : ∀ j, (chgTo fr to j).length ≤ j
  | 0 => Nat.le_refl _
  | j + 1 => by
    have := chgTo_length fr to j
    simp only [chgTo]
    split
    · split
      · simp; omega
      · omega
    · omega
theorem chgTo_mem {fr to : List Sto} : ∀ {j : Nat} {s : Sto}, s ∈ chgTo fr to j → ∃ i, i < j ∧ to[i]? = some s
  | 0, s, h => by simp [chgTo] at h
  | j + 1, s, h => by
    simp only [chgTo] at h
    cases ht : to[j]? with
    | none =>
      simp only [ht] at h
      obtain ⟨i, hi, e⟩ := chgTo_mem h
      exact ⟨i, by omega, e⟩
    | some t =>
      simp only [ht] at h
      split at h
      · rcases List.mem_append.1 h with h | h
        · obtain ⟨i, hi, e⟩ := chgTo_mem h
          exact ⟨i, by omega, e⟩
        · simp at h; subst h; exact ⟨j, by omega, ht⟩
      · obtain ⟨i, hi, e⟩ := chgTo_mem h
        exact ⟨i, by omega, e⟩
theorem chg_length (fr to : List Sto) : (chg fr to).length ≤ to.length := chgTo_length _ _ _

/-- The cells behind stores. -/
def app (l : List Cel) (ss : List Sto) : List Cel := ss.foldl (fun l s => putAt l s.1 s.2) l
theorem app_nil (l : List Cel) : app l [] = l := rfl
theorem app_snoc (l : List Cel) (ss : List Sto) (s : Sto) : app l (ss ++ [s]) = putAt (app l ss) s.1 s.2 := by unfold app; rw [List.foldl_append]; rfl
theorem app_append (l : List Cel) (a b : List Sto) : app l (a ++ b) = app (app l a) b := by unfold app; rw [List.foldl_append]
theorem app_length (ss : List Sto) : ∀ l : List Cel, (app l ss).length = l.length := by
  induction ss with
  | nil => intro l; rfl
  | cons s r ih => intro l; show (app (putAt l s.1 s.2) r).length = _; rw [ih, putAt_length]
theorem app_take {l : List Cel} {ss : List Sto} {j : Nat} {s : Sto} (h : ss[j]? = some s) : app l (ss.take (j + 1)) = putAt (app l (ss.take j)) s.1 s.2 := by
  rw [List.take_add_one, h]; exact app_snoc _ _ _

theorem cellAt_putAt (l : List Cel) (i j : Int) (c : Cel) : cellAt (putAt l i c) j = if i = j ∧ 0 ≤ i ∧ i < l.length then c else cellAt l j := by
  unfold putAt cellAt
  by_cases hi : 0 ≤ i
  · rw [if_pos hi]
    by_cases hj : 0 ≤ j
    · rw [if_pos hj, if_pos hj, List.getD_eq_getElem?_getD, List.getD_eq_getElem?_getD]
      by_cases hij : i = j
      · subst hij
        by_cases hl : i < l.length
        · rw [if_pos ⟨rfl, hi, hl⟩, List.getElem?_set_self (by omega)]; rfl
        · rw [if_neg (by omega), List.set_eq_of_length_le (by omega)]
      · rw [if_neg (fun h => hij h.1), List.getElem?_set_ne (by omega)]
    · have hn : ¬ (i = j ∧ 0 ≤ i ∧ i < l.length) := by omega
      rw [if_neg hj, if_neg hj, if_neg hn]
  · have hn : ¬ (i = j ∧ 0 ≤ i ∧ i < l.length) := by omega
    rw [if_neg hi, if_neg hn]
theorem cellAt_other {l : List Cel} {i j : Int} (h : i ≠ j) (c : Cel) : cellAt (putAt l i c) j = cellAt l j := by rw [cellAt_putAt, if_neg (fun e => h e.1)]
theorem cellAt_same {l : List Cel} {i : Int} (h : 0 ≤ i ∧ i < l.length) (c : Cel) : cellAt (putAt l i c) i = c := by rw [cellAt_putAt, if_pos ⟨rfl, h⟩]
theorem app_other {j : Int} (ss : List Sto) : ∀ l : List Cel, (∀ s ∈ ss, s.1 ≠ j) → cellAt (app l ss) j = cellAt l j := by
  induction ss with
  | nil => intro l _; rfl
  | cons s r ih =>
    intro l h
    show cellAt (app (putAt l s.1 s.2) r) j = _
    rw [ih _ (fun t ht => h t (List.mem_cons_of_mem _ ht)), cellAt_other (h s (List.mem_cons_self ..))]

/-- The addresses of a node's cells (its latch at la0): all there, and all different. -/
structure Ads (F : Nat) (la0 : Int) (ad : Nat → Int) (n : Nat) : Prop where
  lat : 0 ≤ la0 ∧ la0 < n
  in' : ∀ r, r < F + 3 → 0 ≤ ad r ∧ ad r < n
  ne : ∀ r, r < F + 3 → ad r ≠ la0
  inj : ∀ r t, r < F + 3 → t < F + 3 → ad r = ad t → r = t

/-- The page lies in the cells. -/
def Holds (ad : Nat → Int) (l : List Cel) (P : Pg) : Prop := ∀ r, r < P.xs.length + 3 → cellAt l (ad r) = pc P r

/-- Behind the stores of what has changed, the new page lies where the elder one lay; on the way there every cell of the new page up to number j is right, the others are the elder ones. -/
theorem chgTo_holds {F : Nat} {la0 : Int} {ad : Nat → Int} {n : Nat} (ha : Ads F la0 ad n) {l : List Cel} (hn : l.length = n) {P Q : Pg} (hP : Holds ad l P) (hF : P.xs.length ≤ F) (hQ : Q.xs.length ≤ F) :
    ∀ j, j ≤ Q.xs.length + 3 → (∀ r, r < j → cellAt (app l (chgTo (pst ad P) (pst ad Q) j)) (ad r) = pc Q r) ∧ (∀ r, j ≤ r → r < F + 3 → cellAt (app l (chgTo (pst ad P) (pst ad Q) j)) (ad r) = cellAt l (ad r))
  | 0, _ => ⟨fun r h => by omega, fun r _ _ => rfl⟩
  | j + 1, hj => by
    obtain ⟨h1, h2⟩ := chgTo_holds ha hn hP hF hQ j (by omega)
    have hs := pst_at ad Q j (by omega)
    rw [chgTo_step hs]
    have hin := ha.in' j (by omega)
    by_cases hnw : news (pst ad P) (ad j, pc Q j) j = true
    · rw [if_pos hnw, app_snoc]
      refine ⟨fun r hr => ?_, fun r hr hrF => ?_⟩
      · by_cases hrj : r = j
        · subst hrj
          exact cellAt_same ⟨hin.1, by rw [app_length]; omega⟩ _
        · rw [cellAt_other (fun e => hrj (ha.inj r j (by omega) (by omega) e.symm))]
          exact h1 r (by omega)
      · rw [cellAt_other (fun e => by have := ha.inj r j (by omega) (by omega) e.symm; omega)]
        exact h2 r (by omega) hrF
    · rw [if_neg hnw]
      refine ⟨fun r hr => ?_, fun r hr hrF => h2 r (by omega) hrF⟩
      by_cases hrj : r = j
      · subst hrj
        rw [h2 r (Nat.le_refl _) (by omega)]
        unfold news at hnw
        by_cases hrP : r < P.xs.length + 3
        · rw [pst_at ad P r hrP] at hnw
          simp at hnw
          rw [hP r hrP]; exact hnw.symm
        · rw [List.getElem?_eq_none (by rw [pst_length]; omega)] at hnw
          simp at hnw
      · exact h1 r (by omega)
theorem chg_holds {F : Nat} {la0 : Int} {ad : Nat → Int} {n : Nat} (ha : Ads F la0 ad n) {l : List Cel} (hn : l.length = n) {P Q : Pg} (hP : Holds ad l P) (hF : P.xs.length ≤ F) (hQ : Q.xs.length ≤ F) : Holds ad (app l (chg (pst ad P) (pst ad Q))) Q := by
  have := (chgTo_holds ha hn hP hF hQ (Q.xs.length + 3) (Nat.le_refl _)).1
  unfold chg; rw [pst_length]; exact this
theorem pst_addr {ad : Nat → Int} {P : Pg} {s : Sto} (h : s ∈ pst ad P) : ∃ r, r < P.xs.length + 3 ∧ s = (ad r, pc P r) := by
  unfold pst at h
  obtain ⟨r, hr, rfl⟩ := List.mem_map.1 h
  exact ⟨r, List.mem_range.1 hr, rfl⟩
theorem chg_addr {fr : List Sto} {ad : Nat → Int} {Q : Pg} {s : Sto} (h : s ∈ chg fr (pst ad Q)) : ∃ r, r < Q.xs.length + 3 ∧ s = (ad r, pc Q r) := by
  obtain ⟨i, _, e⟩ := chgTo_mem h
  exact pst_addr (List.mem_of_getElem? e)
/-- Behind the stores of a page it lies there. -/
theorem pst_holds {F : Nat} {la0 : Int} {ad : Nat → Int} {n : Nat} (ha : Ads F la0 ad n) {l : List Cel} (hn : l.length = n) {Q : Pg} (hQ : Q.xs.length ≤ F) : ∀ j, j ≤ Q.xs.length + 3 → ∀ r, r < j → cellAt (app l ((pst ad Q).take j)) (ad r) = pc Q r
  | 0, _, r, h => by omega
  | j + 1, hj, r, hr => by
    rw [app_take (pst_at ad Q j (by omega))]
    have hin := ha.in' j (by omega)
    by_cases hrj : r = j
    · subst hrj
      exact cellAt_same ⟨hin.1, by rw [app_length]; omega⟩ _
    · rw [cellAt_other (fun e => hrj (ha.inj r j (by omega) (by omega) e.symm))]
      exact pst_holds ha hn hQ j (by omega) r (by omega)

/-- What a reader has read: how many cells, how many there are, and the parts of the page. -/
structure Cs where
  rd : Nat
  en : Nat
  lv : Nat
  hi : ByteArray
  la : Bool
  rt : Nat
  xs : List Sl
def cs0 : Cs := ⟨0, 0, 0, ⟨#[]⟩, false, 0, []⟩
def Cs.pg (s : Cs) : Pg := ⟨s.lv, s.hi, s.la, s.rt, s.xs⟩
/-- The next cell is taken. -/
def tk (F : Nat) (s : Cs) (N : Nat) (K : ByteArray) (M : Nat) : Cs :=
  if s.rd = 0 then { s with rd := 1, en := 3 + min N F, lv := M }
  else if s.rd = 1 then { s with rd := 2, hi := K, la := M == 1 }
  else if s.rd = 2 then { s with rd := 3, rt := N }
  else { s with rd := s.rd + 1, xs := s.xs ++ [(K, N)] }
/-- What is known of a reader on its way, whatever it has read. -/
structure Oks (F : Nat) (s : Cs) : Prop where
  zero : s.rd = 0 → s = cs0
  en : 0 < s.rd → 3 ≤ s.en ∧ s.en ≤ F + 3 ∧ s.rd ≤ s.en
  xs : s.xs.length = s.rd - 3
theorem oks0 (F : Nat) : Oks F cs0 := ⟨fun _ => rfl, fun h => by simp [cs0] at h, rfl⟩
theorem Oks.lt {F : Nat} {s : Cs} (h : Oks F s) : s.rd ≤ F + 3 := by
  by_cases h0 : s.rd = 0
  · omega
  · have := h.en (by omega); omega
theorem tk_rd (F : Nat) (s : Cs) (N : Nat) (K : ByteArray) (M : Nat) : (tk F s N K M).rd = s.rd + 1 := by
  unfold tk; split
  · simp; omega
  · split
    · simp; omega
    · split
      · simp; omega
      · rfl
theorem tk_en (F : Nat) (s : Cs) (N : Nat) (K : ByteArray) (M : Nat) (h : 0 < s.rd) : (tk F s N K M).en = s.en := by
  unfold tk; rw [if_neg (by omega)]; split
  · rfl
  · split
    · rfl
    · rfl
theorem tk_oks {F : Nat} {s : Cs} (h : Oks F s) (hlt : s.rd = 0 ∨ s.rd < s.en) (N : Nat) (K : ByteArray) (M : Nat) : Oks F (tk F s N K M) := by
  have hx := h.xs
  refine ⟨fun e => by rw [tk_rd] at e; omega, fun _ => ?_, ?_⟩
  · rw [tk_rd]
    by_cases h0 : s.rd = 0
    · have : (tk F s N K M).en = 3 + min N F := by unfold tk; rw [if_pos h0]
      rw [this]; omega
    · rw [tk_en F s N K M (by omega)]
      have := h.en (by omega); omega
  · rw [tk_rd]
    unfold tk; split
    · simp only; omega
    · split
      · simp only; omega
      · split
        · simp only; omega
        · simp only [List.length_append, List.length_cons, List.length_nil]; omega

/-- After r cells of a page. -/
def got (P : Pg) (r : Nat) : Cs := ⟨r, if r = 0 then 0 else P.xs.length + 3, if r = 0 then 0 else P.lv, if r < 2 then ⟨#[]⟩ else P.hi, if r < 2 then false else P.la, if r < 3 then 0 else P.rt, P.xs.take (r - 3)⟩
/-- A page without a high key has none. -/
def Wf (P : Pg) : Prop := P.la = true → P.hi = ⟨#[]⟩
theorem got_zero (P : Pg) : got P 0 = cs0 := by unfold got cs0; simp
theorem got_oks {F : Nat} {P : Pg} (hF : P.xs.length ≤ F) {r : Nat} (hr : r ≤ P.xs.length + 3) : Oks F (got P r) := by
  refine ⟨fun e => ?_, fun h => ?_, ?_⟩
  · have : r = 0 := e
    subst this; exact got_zero P
  · have h' : 0 < r := h
    have e : (got P r).en = P.xs.length + 3 := by unfold got; simp; omega
    rw [e]; show _ ∧ _ ∧ r ≤ _; omega
  · show (P.xs.take (r - 3)).length = r - 3
    rw [List.length_take]; omega
theorem got_end (P : Pg) : (got P (P.xs.length + 3)).pg = P := by
  unfold got Cs.pg
  simp only [Nat.add_sub_cancel, List.take_length]
  rw [if_neg (by omega), if_neg (by omega), if_neg (by omega), if_neg (by omega)]
/-- A cell as natural numbers. -/
def NatCell (c : Cel) : Prop := ∃ (N M : Nat) (K : ByteArray), c = ((N : Int), K, (M : Int)) ∧ N < 18446744073709551616 ∧ M < 9223372036854775808
theorem tk_got {F : Nat} {P : Pg} (hw : Wf P) (hF : P.xs.length ≤ F) {r : Nat} (hr : r < P.xs.length + 3) {N M : Nat} {K : ByteArray} (hc : pc P r = ((N : Int), K, (M : Int))) : tk F (got P r) N K M = got P (r + 1) := by
  unfold pc at hc
  rcases (by omega : r = 0 ∨ r = 1 ∨ r = 2 ∨ 3 ≤ r) with rfl | rfl | rfl | h3
  · rw [if_pos rfl] at hc
    obtain ⟨h1, h2, h3⟩ : (P.xs.length : Int) = N ∧ (⟨#[]⟩ : ByteArray) = K ∧ (P.lv : Int) = M := by simpa using hc
    have e1 : P.xs.length = N := by omega
    have e2 : P.lv = M := by omega
    simp only [tk, got]
    simp [e2]; omega
  · rw [if_neg (by omega), if_pos rfl] at hc
    unfold hiCel at hc
    have e : P.hi = K ∧ (M == 1) = P.la := by
      cases hla : P.la
      · rw [hla] at hc
        obtain ⟨_, h2, h3⟩ : (0 : Int) = N ∧ P.hi = K ∧ (0 : Int) = M := by simpa using hc
        have : M = 0 := by omega
        exact ⟨h2, by rw [this]; rfl⟩
      · rw [hla] at hc
        obtain ⟨_, h2, h3⟩ : (0 : Int) = N ∧ (⟨#[]⟩ : ByteArray) = K ∧ (1 : Int) = M := by simpa using hc
        have : M = 1 := by omega
        exact ⟨by rw [hw hla]; exact h2, by rw [this]; rfl⟩
    simp only [tk, got]
    simp [e.1, e.2]
  · rw [if_neg (by omega), if_neg (by omega), if_pos rfl] at hc
    obtain ⟨h1, _⟩ : (P.rt : Int) = N ∧ _ := by simpa using hc
    have e1 : P.rt = N := by omega
    simp only [tk, got]
    simp [e1]
  · rw [if_neg (by omega), if_neg (by omega), if_neg (by omega)] at hc
    have hx := List.getElem?_eq_getElem (l := P.xs) (i := r - 3) (by omega)
    rw [hx] at hc
    obtain ⟨h1, h2, _⟩ : ((P.xs[r - 3].2 : Int) = N) ∧ P.xs[r - 3].1 = K ∧ _ := by simpa [slCel] using hc
    have e1 : P.xs[r - 3].2 = N := by omega
    have e2 : P.xs.take (r + 1 - 3) = P.xs.take (r - 3) ++ [(K, N)] := by
      rw [show r + 1 - 3 = (r - 3) + 1 by omega, List.take_add_one, hx, ← h2, ← e1]; rfl
    unfold tk
    have hrd : (got P r).rd = r := rfl
    rw [hrd, if_neg (by omega), if_neg (by omega), if_neg (by omega)]
    unfold got
    simp only
    rw [e2, if_neg (by omega), if_neg (by omega), if_neg (by omega), if_neg (by omega), if_neg (by omega), if_neg (by omega), if_neg (by omega), if_neg (by omega)]
    simp; omega
theorem got_last {P : Pg} {r : Nat} (hr : r < P.xs.length + 3) : ((got P (r + 1)).rd == (got P (r + 1)).en) = (r + 1 == P.xs.length + 3) := by
  show (r + 1 == if r + 1 = 0 then 0 else P.xs.length + 3) = _
  rw [if_neg (by omega)]

/-- All cells are natural numbers. -/
def Nats (l : List Cel) : Prop := ∀ i : Int, NatCell (cellAt l i)
theorem Nats.put {l : List Cel} (h : Nats l) (i : Int) {c : Cel} (hc : NatCell c) : Nats (putAt l i c) := fun j => by
  rw [cellAt_putAt]; split
  · exact hc
  · exact h j
theorem Nats.app {ss : List Sto} : ∀ {l : List Cel}, Nats l → (∀ s ∈ ss, NatCell s.2) → Nats (app l ss) := by
  induction ss with
  | nil => intro l h _; exact h
  | cons s r ih => intro l h hs; exact ih (h.put s.1 (hs s (List.mem_cons_self ..))) (fun t ht => hs t (List.mem_cons_of_mem _ ht))
theorem nat0 : NatCell cel0 := ⟨0, 0, ⟨#[]⟩, rfl, by omega, by omega⟩
theorem nats_zero (n : Nat) : Nats (List.replicate n cel0) := fun i => by
  unfold cellAt; split
  · rw [List.getD_eq_getElem?_getD, List.getElem?_replicate]; split <;> exact nat0
  · exact nat0
/-- A page whose numbers fit their cells. -/
structure Fits (P : Pg) : Prop where
  lv : P.lv < 9223372036854775808
  rt : P.rt < 18446744073709551616
  xs : ∀ x ∈ P.xs, x.2 < 18446744073709551616
  len : P.xs.length < 9223372036854775808
theorem fits0 : Fits pg0 := ⟨by simp [pg0], by simp [pg0], fun x h => by simp [pg0] at h, by simp [pg0]⟩
theorem Fits.nat {P : Pg} (h : Fits P) (r : Nat) : NatCell (pc P r) := by
  unfold pc
  split
  · exact ⟨_, _, _, rfl, by have := h.len; omega, h.lv⟩
  · split
    · unfold hiCel; split
      · exact ⟨0, 1, _, rfl, by omega, by omega⟩
      · exact ⟨0, 0, _, rfl, by omega, by omega⟩
    · split
      · exact ⟨P.rt, 0, _, rfl, h.rt, by omega⟩
      · split
        · rename_i x hx
          exact ⟨x.2, 0, x.1, rfl, h.xs x (List.mem_of_getElem? hx), by omega⟩
        · exact nat0
theorem Fits.pstN {P : Pg} (h : Fits P) (ad : Nat → Int) : ∀ s ∈ pst ad P, NatCell s.2 := fun s hs => by
  obtain ⟨r, _, rfl⟩ := pst_addr hs; exact h.nat r
theorem Fits.chgN {P : Pg} (h : Fits P) (fr : List Sto) (ad : Nat → Int) : ∀ s ∈ chg fr (pst ad P), NatCell s.2 := fun s hs => by
  obtain ⟨r, _, rfl⟩ := chg_addr hs; exact h.nat r

/-- The cells of stores, one behind the other. -/
def flat4 : List Sto → List Value
  | [] => []
  | s :: r => .int .i64 s.1 :: .int .u64 s.2.1 :: .string s.2.2.1 :: .int .u64 s.2.2.2 :: flat4 r
theorem flat4_length : ∀ l : List Sto, (flat4 l).length = l.length * 4
  | [] => rfl
  | c :: r => by simp [flat4, flat4_length r]; omega
theorem flat4_append : ∀ a b : List Sto, flat4 (a ++ b) = flat4 a ++ flat4 b
  | [], _ => rfl
  | c :: r, b => by simp [flat4, flat4_append r b]
theorem flat4_at : ∀ (l : List Sto) (i : Nat) (s : Sto), l[i]? = some s → (flat4 l)[i * 4]? = some (.int .i64 s.1) ∧ (flat4 l)[i * 4 + 1]? = some (.int .u64 s.2.1) ∧ (flat4 l)[i * 4 + 2]? = some (.string s.2.2.1) ∧ (flat4 l)[i * 4 + 3]? = some (.int .u64 s.2.2.2)
  | [], i, c, h => by simp at h
  | d :: r, 0, c, h => by
    simp at h; subst h; simp [flat4]
  | d :: r, i + 1, c, h => by
    have := flat4_at r i c (by simpa using h)
    have e : (i + 1) * 4 = i * 4 + 1 + 1 + 1 + 1 := by omega
    rw [e]
    simp only [flat4, List.getElem?_cons_succ]
    exact this
theorem flat4_one : ∀ (l : List Sto), ∀ u ∈ flat4 l, u.oneCell' = true
  | [], u, h => by simp [flat4] at h
  | c :: r, u, h => by
    simp only [flat4, List.mem_cons] at h
    rcases h with rfl | rfl | rfl | rfl | h
    · rfl
    · rfl
    · rfl
    · rfl
    · exact flat4_one r u h
end

section
open Go.RowKit
set_option linter.unusedVariables false

section
variable {P : Program} {ops : Array Oper} {C : World → Prop} {Q : Act → Prop} {a : Act} {o : Oper} {rest : List Oper}
theorem qstep {v : Value} (hw : Region.wanted o (yielded ops a.tmps) = true) (hv : ∀ w, C w → (execOp a.eval o).run P w = .ok (.value v) w) (hk : wpQuiet P ops C Q rest (a.put o.dst v)) : wpQuiet P ops C Q (o :: rest) a :=
  wpQuiet_step fun K hK => by
    rw [if_pos hw]
    exact ⟨v, fun w h => by unfold Oper.quietAt; rw [hv w h]; exact ⟨rfl, rfl⟩, hK _ hk⟩
theorem qcall {f : FuncId} {args : Array Value} {v : Value} (hw : Region.wanted o (yielded ops a.tmps) = true) (hr : ∀ w, C w → (execOp a.eval o).run P w = .ok (.enter f args) w)
    (hc : ∀ w, C w → Calls P f args w (fun e w'' => e = .returned v ∧ C w'')) (hk : wpQuiet P ops C Q rest (a.put o.dst v)) : wpQuiet P ops C Q (o :: rest) a :=
  wpQuiet_step fun K hK => by
    rw [if_pos hw]
    exact ⟨v, fun w h => by unfold Oper.quietAt; rw [hr w h]; exact ⟨rfl, hc w h⟩, hK _ hk⟩
theorem qskip (hw : Region.wanted o (yielded ops a.tmps) = false) (hk : wpQuiet P ops C Q rest (a.put o.dst undef)) : wpQuiet P ops C Q (o :: rest) a := BigFrame.wpQuiet_skip hw hk
theorem qregion {id : Nat} {Q : Exit → Act → World → Prop} {a : Act} {w : World} {l : List Oper} (C : World → Prop) (hm : P.follows .mixedOrders = true) (hB : Region.lexB .any l.toArray = true) (hC : C w.drew)
    (h : wpQuiet P l.toArray C (fun a' => ∀ w', C w' → Q .normal a' w') l a) : (Code.region id l.toArray true).wp P Q a w :=
  wp_region_quiet (C := C) hm hB hC (by simpa using h)
theorem lexOf {l l' : List Oper} (h : Region.lexB .any l'.toArray = true) (e : l = l') : Region.lexB .any l.toArray = true := by subst e; exact h
end
end

section
open Go.RowKit
set_option linter.unusedVariables false

section
variable {P : Program} {ops : Array Oper} {md : Region.Mode} {C : World → Prop}

/-- Whatever comes up of the head, then L. -/
def anyHead (P : Program) (md : Region.Mode) (ops : Array Oper) (C : World → Prop) (n : Nat) (L : Array Bool → Act → Prop) : Nat → Array Bool → Act → Prop
  | 0, listed, a => L listed a
  | f + 1, listed, a => Region.ready md ops listed ≠ [] ∧ ∀ i ∈ Region.ready md ops listed, i < n ∧ qOp P ops C i (anyHead P md ops C n L f (listed.setIfInBounds i true)) a

theorem any_of_head {n g : Nat} {L : Array Bool → Act → Prop} {Q' : Exit → Act → World → Prop} (hL : ∀ listed a w, C w → L listed a → wpAny P md ops Q' g listed a w) :
    ∀ (f : Nat) (listed : Array Bool) (a : Act) (w : World), C w → anyHead P md ops C n L f listed a → wpAny P md ops Q' (f + g) listed a w
  | 0, listed, a, w, hw, h => by rw [Nat.zero_add]; exact hL _ _ _ hw h
  | f + 1, listed, a, w, hw, h => by
    rw [show f + 1 + g = (f + g) + 1 by omega]
    exact ⟨fun h0 => absurd h0 h.1, fun i hi => wpOp_of_qOp hw (fun a' w' hw' h' => any_of_head hL f _ a' w' hw' h') (h.2 i hi).2⟩

theorem head_first {n i : Nat} {oi : Oper} {v : Value} {L : Array Bool → Act → Prop} (hi : ops[i]? = some oi) (hsel : ∀ (j : Nat) (o : Oper) cs b, ops[j]? = some o → o.op ≠ .select cs b)
    (hs : Region.sinkB md ops n = true) (hc : Region.chainB md ops n = true) (hn : n < ops.size) (hin : i < n)
    (hdone : ∀ listed a, L listed a → ∀ j ∈ Region.ready md ops listed, n ≤ j) :
    ∀ (f : Nat) (listed : Array Bool) (a : Act), HeadInv md ops n listed →
      (∀ j oj, ops[j]? = some oj → j ≠ i → listed.getD j true = false → (∀ e ∈ oj.after, Region.binds md e = true → e.on ≠ i) → oi.apart ops oj = true) →
      i ∈ Region.ready md ops listed → YieldsIn P ops C oi v a →
      anyHead P md ops C n L f (listed.setIfInBounds i true) (a.put oi.dst v) → anyHead P md ops C n L (f + 1) listed a := by
  intro f
  induction f with
  | zero =>
    intro listed a inv _ hr hy H
    have hun := (mem_ready.1 hr).1
    refine ⟨fun h => (by rw [h] at hr; cases hr), fun j hj => ?_⟩
    have hjn : j < n := by
      rcases Nat.lt_or_ge j n with h | h
      · exact h
      · exact absurd hj (tail_waits hs hc hn inv _ i rfl hin hun j h)
    refine ⟨hjn, ?_⟩
    by_cases hji : j = i
    · subst hji; exact hy.qOp hi H
    · have := hdone _ _ H j (ready_mono hj hji)
      omega
  | succ f ih =>
    intro listed a inv hfree hr hy H
    have hun := (mem_ready.1 hr).1
    refine ⟨fun h => (by rw [h] at hr; cases hr), fun j hj => ?_⟩
    have hjn : j < n := by
      rcases Nat.lt_or_ge j n with h | h
      · exact h
      · exact absurd hj (tail_waits hs hc hn inv _ i rfl hin hun j h)
    refine ⟨hjn, ?_⟩
    by_cases hji : j = i
    · subst hji; exact hy.qOp hi H
    · have h1 := (H.2 j (ready_mono hj hji)).2
      obtain ⟨hjun, oj, hoj, hall⟩ := mem_ready.1 hj
      have hnot : ∀ e ∈ oj.after, Region.binds md e = true → e.on ≠ i := fun e he hb heq => by
        have h1 := hall e he hb
        rw [heq, getD_both hun] at h1
        cases h1
      have h2 := qOp_put hoj (hfree j oj hoj hji hjun hnot) (fun cs b => hsel i oi cs b hi) (fun cs b => hsel j oj cs b hoj) hy h1
      have hfree' : ∀ k ok, ops[k]? = some ok → k ≠ i → (listed.setIfInBounds j true).getD k true = false →
          (∀ e ∈ ok.after, Region.binds md e = true → e.on ≠ i) → oi.apart ops ok = true := fun k ok hk hki hun hno => by
        refine hfree k ok hk hki ?_ hno
        by_cases hjk : j = k
        · subst hjk; exact hjun
        · rw [getD_set_ne true hjk] at hun; exact hun
      refine qOp_mono (fun a' h3 => ih (listed.setIfInBounds j true) a' (inv.set hj hjn) hfree' (ready_mono hr (Ne.symm hji)) h3.1 ?_) h2
      rw [Array.setIfInBounds_comm _ _ hji]
      exact h3.2

theorem head_lex {n g : Nat} {Lq : Act → Prop} (hsel : Region.noSelect ops = true) (hs : Region.sinkB md ops n = true) (hc : Region.chainB md ops n = true) (hn : n < ops.size) :
    ∀ (l : List Oper) (k : Nat) (listed : Array Bool) (a : Act), (∀ j, j < l.length → l[j]? = ops[k + j]?) → k + l.length = n → HeadInv md ops n listed →
    Region.lexHead md ops g l.length k listed = true → wpQuiet P ops C Lq l a →
    anyHead P md ops C n (fun listed' a' => Region.seqB md ops g n listed' = true ∧ Lq a') l.length listed a
  | [], k, listed, a, _, hk, _, hB, h => by
    have : k = n := by simpa using hk
    subst this
    exact ⟨by simpa [Region.lexHead] using hB, h⟩
  | o :: l, k, listed, a, hl, hk, inv, hB, h => by
    have h0 : ops[k]? = some o := by simpa using (hl 0 (by simp)).symm
    simp only [List.length_cons, Region.lexHead, Bool.and_eq_true] at hB
    obtain ⟨⟨hr, hf⟩, hB'⟩ := hB
    have hkn : k < n := by simp only [List.length_cons] at hk; omega
    have hr' : k ∈ Region.ready md ops listed := by simpa using hr
    have hst : qOp P ops C k (wpQuiet P ops C Lq l) a := by unfold qOp; simp only [h0]; exact h
    obtain ⟨v, hy, hK⟩ := yieldsIn_of_qOp h0 hst
    exact head_first h0 (Region.noSelect_spec hsel) hs hc hn hkn (fun listed' a' hL => seqB_ready hL.1) l.length listed a inv (Region.free_spec h0 hf) hr' hy
      (head_lex hsel hs hc hn l (k + 1) _ _ (fun j hj => by have := hl (j + 1) (by simp; omega); simpa [Nat.add_assoc, Nat.add_comm 1 j] using this) (by simp only [List.length_cons] at hk; omega) (inv.set hr' hkn) hB' hK)

/-- The head (the first n operations) in the order of the text at the class, then the tail as a plain list. -/
theorem qtail {id : Nat} {Q : Exit → Act → World → Prop} {a : Act} {w : World} {l : List Oper} (n : Nat) (C : World → Prop) (hm : P.follows .mixedOrders = true) (hB : Region.lexTailB .any l.toArray n = true) (hC : C w.drew)
    (h : wpQuiet P l.toArray C (fun a' => ∀ w', C w' → wpList P l.toArray Q (l.drop n) a' w') (l.take n) a) : (Code.region id l.toArray true).wp P Q a w := by
  simp only [Region.lexTailB, Bool.and_eq_true, decide_eq_true_eq] at hB
  obtain ⟨⟨⟨⟨hsel, hn⟩, hs⟩, hc⟩, hlex⟩ := hB
  have hn' : n < l.length := by simpa using hn
  have htl : (l.take n).length = n := by simp; omega
  have hdl : (l.drop n).length = l.toArray.size - n := by simp
  have inv0 : HeadInv .any l.toArray n (Array.replicate l.toArray.size false) :=
    ⟨by simp, fun j oj _ hl => (by rw [getD_replicate_false] at hl; cases hl), fun t _ ht => getD_in (by simpa using ht) (getD_replicate_false _ _)⟩
  have H := head_lex (md := .any) (g := l.toArray.size - n) hsel hs hc hn (l.take n) 0 _ a (fun j hj => by
    have hj' : j < n := by rw [htl] at hj; exact hj
    simp [hj']) (by simpa using htl) inv0 (by rw [htl]; exact hlex) h
  refine wp_region_any hm ?_
  have := any_of_head (Q' := Q) (g := l.toArray.size - n) (C := C) (fun listed a' w' hw' hL => by
    have := wpAny_of_seq (md := .any) (Q' := Q) (l.drop n) n listed a' w' (fun j => by simp [List.getElem?_drop]) (by rw [hdl]; exact hL.1) (hL.2 w' hw')
    rwa [hdl] at this) _ _ _ w.drew hC H
  rw [htl, show n + (l.toArray.size - n) = l.toArray.size by omega] at this
  exact this
end
end

section
open Go.RowKit
set_option linter.unusedVariables false

section
variable {P : Program} {ops : Array Oper} {Q : Exit → Act → World → Prop} {md : Region.Mode} {S : World → Prop} {z : Nat}

def anyE (P : Program) (md : Region.Mode) (ops : Array Oper) (Q : Exit → Act → World → Prop) (S : World → Prop) (z : Nat) : Nat → Array Bool → Act → World → Prop
  | 0, listed, a, w => Region.ready md ops listed = [] ∧ Q .normal a w
  | fuel + 1, listed, a, w =>
    (Region.ready md ops listed = [] → Q .normal a w) ∧
    ∀ i ∈ Region.ready md ops listed, wpOp P ops Q i (fun a' w' => (i ≠ z → S w') ∧ anyE P md ops Q S z fuel (listed.setIfInBounds i true) a' w') a w

theorem any_of_E : ∀ (fuel : Nat) (listed : Array Bool) (a : Act) (w : World), anyE P md ops Q S z fuel listed a w → wpAny P md ops Q fuel listed a w
  | 0, _, _, _, h => h
  | fuel + 1, _, _, _, h => ⟨h.1, fun i hi => wpOp_mono (fun a' w' h' => any_of_E fuel _ a' w' h'.2) (h.2 i hi)⟩

theorem anyE_first {i : Nat} {oi : Oper} {v : Value} (hi : ops[i]? = some oi) (hsel : ∀ (j : Nat) (o : Oper) cs b, ops[j]? = some o → o.op ≠ .select cs b)
    (hQ : ∀ c a w, Q (.panic c) (a.put oi.dst v) w → Q (.panic c) a w) (hz : Region.waitsFor md ops z i = true) :
    ∀ (fuel : Nat) (listed : Array Bool) (a : Act) (w : World),
      (∀ j oj, ops[j]? = some oj → j ≠ i → listed.getD j true = false → (∀ e ∈ oj.after, Region.binds md e = true → e.on ≠ i) → oi.apart ops oj = true) →
      i ∈ Region.ready md ops listed → YieldsIf P ops S oi v a → S w →
      anyE P md ops Q S z fuel (listed.setIfInBounds i true) (a.put oi.dst v) w → anyE P md ops Q S z (fuel + 1) listed a w := by
  intro fuel
  induction fuel with
  | zero =>
    intro listed a w _ hr hy hS H
    refine ⟨fun h => (by rw [h] at hr; cases hr), fun j hj => ?_⟩
    by_cases hji : j = i
    · subst hji; exact hy.wpOp hi hS ⟨fun _ => hS, H⟩
    · have := ready_mono hj hji
      rw [H.1] at this
      cases this
  | succ fuel ih =>
    intro listed a w hfree hr hy hS H
    refine ⟨fun h => (by rw [h] at hr; cases hr), fun j hj => ?_⟩
    by_cases hji : j = i
    · subst hji; exact hy.wpOp hi hS ⟨fun _ => hS, H⟩
    · have h1 := H.2 j (ready_mono hj hji)
      obtain ⟨hjun, oj, hoj, hall⟩ := mem_ready.1 hj
      have hun := (mem_ready.1 hr).1
      have hnot : ∀ e ∈ oj.after, Region.binds md e = true → e.on ≠ i := fun e he hb heq => by
        have h1 := hall e he hb
        rw [heq, getD_both hun] at h1
        cases h1
      have hjz : j ≠ z := fun e => by
        subst e
        obtain ⟨oz, hoz, e, he, hb, hon⟩ := Region.waitsFor_spec hz
        have : oz = oj := Option.some.inj (hoz.symm.trans hoj)
        subst this
        exact hnot e he hb hon
      have h2 := wpOp_putIf hoj (hfree j oj hoj hji hjun hnot) (fun cs b => hsel i oi cs b hi) (fun cs b => hsel j oj cs b hoj) hQ hy h1
      have hfree' : ∀ k ok, ops[k]? = some ok → k ≠ i → (listed.setIfInBounds j true).getD k true = false →
          (∀ e ∈ ok.after, Region.binds md e = true → e.on ≠ i) → oi.apart ops ok = true := fun k ok hk hki hun hno => by
        refine hfree k ok hk hki ?_ hno
        by_cases hjk : j = k
        · subst hjk; exact hjun
        · rw [getD_set_ne true hjk] at hun; exact hun
      refine wpOp_mono (fun a' w' h3 => ⟨h3.2.1, ih (listed.setIfInBounds j true) a' w' hfree' (ready_mono hr (Ne.symm hji)) h3.1 (h3.2.1 hjz) ?_⟩) h2
      rw [Array.setIfInBounds_comm _ _ hji]
      exact h3.2.2

theorem anyE_take {i : Nat} {oi : Oper} {v : Value} {fuel : Nat} {listed : Array Bool} {a : Act} {w : World} (hi : ops[i]? = some oi)
    (hs : Region.noSelect ops = true) (hf : Region.free md ops listed i = true) (hr : (Region.ready md ops listed).contains i = true) (hz : Region.waitsFor md ops z i = true)
    (hQ : ∀ c a w, Q (.panic c) (a.put oi.dst v) w → Q (.panic c) a w) (hy : YieldsIf P ops S oi v a) (hS : S w)
    (h : anyE P md ops Q S z fuel (listed.setIfInBounds i true) (a.put oi.dst v) w) : anyE P md ops Q S z (fuel + 1) listed a w :=
  anyE_first hi (Region.noSelect_spec hs) hQ hz fuel listed a w (Region.free_spec hi hf) (by simpa using hr) hy hS h

/-- The one that may come up comes up. -/
theorem anyE_ready {i : Nat} {o : Oper} {fuel : Nat} {listed : Array Bool} {a : Act} {w : World} (hr : Region.ready md ops listed = [i]) (ho : ops[i]? = some o)
    (h : ∀ K' : Act → World → Prop, Shut (∀ a w, (i ≠ z → S w) → ((i ≠ z → S w) → anyE P md ops Q S z fuel (listed.setIfInBounds i true) a w) → K' a w) → if Region.wanted o (yielded ops a.tmps) = true then Oper.wp P o a w K' Q else K' (a.put o.dst undef) w) :
    anyE P md ops Q S z (fuel + 1) listed a w :=
  ⟨fun h0 => (by rw [hr] at h0; cases h0), fun j hj => by
    rw [hr] at hj
    obtain rfl : j = i := by simpa using hj
    exact wpOp_step ho (fun K' hK => h K' (fun a w hS hW => hK a w ⟨hS, hW hS⟩))⟩

theorem anyE_done {listed : Array Bool} {a : Act} {w : World} (hr : Region.ready md ops listed = []) (h : Q .normal a w) :
    ∀ fuel, anyE P md ops Q S z fuel listed a w
  | 0 => ⟨hr, h⟩
  | _ + 1 => ⟨fun _ => h, by rw [hr]; simp⟩

/-- The beginning: S is shown of the world behind the draw, once, and handed on. -/
theorem region_E {id : Nat} {a : Act} {w : World} (z : Nat) (S : World → Prop) (hm : P.follows .mixedOrders = true) (hS : S w.drew)
    (h : S w.drew → anyE P .any ops Q S z ops.size (Array.replicate ops.size false) a w.drew) : (Code.region id ops true).wp P Q a w :=
  wp_region_any hm (any_of_E _ _ _ _ (h hS))
end
end

section
open Go.RowKit
set_option linter.unusedVariables false

section
variable {P : Program}
theorem step_append_any (w : World) {ops : Array Oper} {o : Oper} {a : Act} {K : Act → World → Prop} {Q : Exit → Act → World → Prop} {E : Prop} (hgd : o.guard = none) (s x : Operand) (t : TypeId)
    (ho : o.op = .call { callee := .builtin .append, args := #[s, x], argTypes := #[t, t] })
    (base : Nat) (e : TypeId) (i : TypeInfo) (z : Value) (size bytes : Nat) (ht : P.underlying t = some (.slice e)) (hi : P.info? e = some i) (hz : i.zero = some z)
    (hsize : i.size = size) (hby : i.bytes = bytes) (hzs : z.cells.size = size) (hsz : 0 < size)
    (v : Value) (n : Nat) (xs : List Value) (hs : a.eval s = v) (hown : w.ownsRow base e size v n xs)
    (base2 : Nat) (v2 : Value) (m : Nat) (ys : List Value) (hx : a.eval x = v2) (hown2 : w.ownsRow base2 e size v2 m ys) (h1 : ∀ u ∈ ys, u.oneCell' = true)
    (h63 : n + m ≤ maxLen) (hbytes : (n + m) * bytes ≤ 140737488355328) (hbase : base ≤ w.heap.size)
    (h : ∀ v' w', w'.ownsRow base e size v' (n + m) (xs ++ ys) → w.grownBy w' v.ownBlock → K (a.put o.dst v') w') :
    if Region.wanted o (yielded ops a.tmps) = true then Oper.wp P o a w K Q else E := by
  have hw : Region.wanted o (yielded ops a.tmps) = true := by simp [Region.wanted, hgd]
  rw [if_pos hw]
  have hl := hown2.1
  rcases hown2.2 with ⟨rfl, rfl⟩ | ⟨g, cap, cur, rfl, hb, hg, hc, hm, hcs, htk⟩
  · have hys : ys = [] := List.eq_nil_of_length_eq_zero (by omega)
    subst hys
    have hrun := run_append_owned_none (P := P) (w := w) base t o.type e i size ht hi v n xs hown
    unfold Oper.wp
    simp [execOp, ho, resolve, invoke, builtin, hs, hx, hrun, Result.andThen]
    exact h v w (by rw [List.append_nil]; exact hown) ⟨rfl, rfl, rfl, Nat.le_refl _, fun _ _ _ => rfl⟩
  · have hcells := hown2.cells (g := g) rfl
    obtain ⟨v', w', hr, h2, h3, _, _⟩ := run_append_own_at (P := P) w base t o.type e i z size bytes ht hi hz hsize hby hzs hsz v n xs hown ⟨g, 0, none⟩ m cap ys hl hcells h1 h63 hbytes hbase
    unfold Oper.wp execOp
    simp only [ho, resolve, invoke, builtin, Sem.run_bind, Sem.run_pure, Result.andThen_ok, List.map_toArray, List.map_cons, List.map_nil, hs, hx, hr]
    exact h v' w' h2 h3
end
end

end Go.Proofs.Ytodenkamlbihnaa
namespace Go.Proofs.Ytodenkamlbihnaa.PlainE
section
open Go Plain

abbrev Ent := ByteArray × ByteArray
/-- The entries' cells, one behind the other. -/
def flat : List Ent → List Value
  | [] => []
  | x :: r => .string x.1 :: .string x.2 :: flat r

theorem flat_length : ∀ xs : List Ent, (flat xs).length = xs.length * 2
  | [] => rfl
  | x :: r => by simp [flat, flat_length r]; omega
theorem flat_append : ∀ xs ys : List Ent, flat (xs ++ ys) = flat xs ++ flat ys
  | [], _ => rfl
  | x :: r, ys => by simp [flat, flat_append r ys]
theorem flat_at : ∀ (xs : List Ent) (k : Nat) (h : k < xs.length), (flat xs)[k * 2]? = some (.string (xs[k]).1) ∧ (flat xs)[k * 2 + 1]? = some (.string (xs[k]).2)
  | [], k, h => by simp at h
  | x :: r, 0, _ => by simp [flat]
  | x :: r, k + 1, h => by
    have := flat_at r k (by simpa using h)
    have e : (k + 1) * 2 = k * 2 + 1 + 1 := by omega
    rw [e]
    simp only [flat, List.getElem?_cons_succ, List.getElem_cons_succ]
    exact this

/-- Is the entry's key not below the other's? -/
def geE (x e : Ent) : Bool := !ltB x.1.toList e.1.toList
def neE (x e : Ent) : Bool := !(x.1.toList == e.1.toList)
/-- One round of the loop. -/
def stp (e : Ent) (s : List Ent × Bool) (x : Ent) : List Ent × Bool :=
  (s.1 ++ (if (!s.2 && geE x e) = true then [e] else []) ++ (if neE x e = true then [x] else []), s.2 || geE x e)
def run (e : Ent) (xs : List Ent) : List Ent × Bool := xs.foldl (stp e) ([], false)
def putL (xs : List Ent) (e : Ent) : List Ent := if (run e xs).2 = true then (run e xs).1 else (run e xs).1 ++ [e]

theorem run_nil (e : Ent) : run e [] = ([], false) := rfl
theorem run_snoc (e : Ent) (xs : List Ent) (x : Ent) : run e (xs ++ [x]) = stp e (run e xs) x := by unfold run; rw [List.foldl_append]; rfl
theorem take_snoc {α : Type} (xs : List α) (k : Nat) (h : k < xs.length) : xs.take (k + 1) = xs.take k ++ [xs[k]] := by
  rw [List.take_succ_eq_append_getElem h]
theorem run_take (e : Ent) (xs : List Ent) (k : Nat) (h : k < xs.length) : run e (xs.take (k + 1)) = stp e (run e (xs.take k)) xs[k] := by
  rw [take_snoc xs k h, run_snoc]

theorem stp_len (e : Ent) (s : List Ent × Bool) (x : Ent) (n : Nat) (h : s.1.length ≤ n + (if s.2 = true then 1 else 0)) : (stp e s x).1.length ≤ n + 1 + (if (stp e s x).2 = true then 1 else 0) := by
  unfold stp
  obtain ⟨l, d⟩ := s
  cases d <;> cases geE x e <;> cases neE x e <;> simp at h ⊢ <;> omega
theorem run_len (e : Ent) (xs : List Ent) : ∀ k, k ≤ xs.length → (run e (xs.take k)).1.length ≤ k + (if (run e (xs.take k)).2 = true then 1 else 0)
  | 0, _ => by simp [run_nil]
  | k + 1, h => by rw [run_take e xs k (by omega)]; exact stp_len _ _ _ _ (run_len e xs k (by omega))
theorem run_len' (e : Ent) (xs : List Ent) (k : Nat) (h : k ≤ xs.length) : (run e (xs.take k)).1.length ≤ k + 1 := by
  have := run_len e xs k h; split at this <;> omega
theorem putL_len (xs : List Ent) (e : Ent) : (putL xs e).length ≤ xs.length + 1 := by
  have := run_len e xs xs.length (Nat.le_refl _)
  rw [List.take_length] at this
  unfold putL
  split
  · rename_i h; rw [if_pos h] at this; exact this
  · rename_i h; rw [if_neg h] at this; simp; omega

/-! ### Strictly ascending -/
def Asc : List Ent → Prop
  | [] => True
  | [_] => True
  | x :: y :: r => ltB x.1.toList y.1.toList = true ∧ Asc (y :: r)

theorem asc_cons {x : Ent} : ∀ {r : List Ent}, Asc (x :: r) → Asc r
  | [], _ => trivial
  | _ :: _, h => h.2
theorem asc_head {x : Ent} : ∀ {r : List Ent}, Asc (x :: r) → ∀ y ∈ r, ltB x.1.toList y.1.toList = true
  | [], _, y, hy => by simp at hy
  | z :: r, h, y, hy => by
    rcases List.mem_cons.1 hy with rfl | hy
    · exact h.1
    · exact ltB_trans _ _ _ h.1 (asc_head h.2 y hy)
theorem asc_mk {x : Ent} {r : List Ent} (h : Asc r) (hx : ∀ y ∈ r, ltB x.1.toList y.1.toList = true) : Asc (x :: r) := by
  cases r with
  | nil => trivial
  | cons z r => exact ⟨hx z (by simp), h⟩

/-- What the loop builds, from the front. -/
def ins (e : Ent) : Bool → List Ent → List Ent
  | d, [] => if d = true then [] else [e]
  | d, x :: r => (if (!d && geE x e) = true then [e] else []) ++ ((if neE x e = true then [x] else []) ++ ins e (d || geE x e) r)

theorem ins_of_fold (e : Ent) : ∀ (xs : List Ent) (l : List Ent) (d : Bool),
    (let s := xs.foldl (stp e) (l, d); if s.2 = true then s.1 else s.1 ++ [e]) = l ++ ins e d xs
  | [], l, d => by cases d <;> simp [ins]
  | x :: r, l, d => by
    rw [List.foldl_cons]
    have := ins_of_fold e r (stp e (l, d) x).1 (stp e (l, d) x).2
    simp only [Prod.eta] at this
    rw [this]
    simp [stp, ins]
theorem putL_ins (xs : List Ent) (e : Ent) : putL xs e = ins e false xs := by
  have := ins_of_fold e xs [] false
  rw [List.nil_append] at this
  exact this

/-- The rest, once the entry is in: only its own key is left out. -/
theorem ins_done (e : Ent) : ∀ xs : List Ent, ins e true xs = xs.filter (neE · e)
  | [] => rfl
  | x :: r => by
    rw [ins, List.filter_cons, Bool.true_or, ins_done e r]
    cases neE x e <;> simp

theorem ltB_of_ge_ne (x e : Ent) (h : geE x e = true) (n : neE x e = true) : ltB e.1.toList x.1.toList = true := by
  unfold geE at h; unfold neE at n
  simp only [Bool.not_eq_true'] at h n
  cases hx : ltB e.1.toList x.1.toList
  · have := ltB_tri _ _ hx h; rw [this] at n; simp at n
  · rfl

theorem asc_filter (p : Ent → Bool) : ∀ {xs : List Ent}, Asc xs → Asc (xs.filter p)
  | [], _ => trivial
  | x :: r, h => by
    rw [List.filter_cons]
    split
    · exact asc_mk (asc_filter p (asc_cons h)) fun y hy => asc_head h y (List.mem_filter.1 hy).1
    · exact asc_filter p (asc_cons h)

theorem ins_mem (e : Ent) (y : Ent) : ∀ (d : Bool) (xs : List Ent), y ∈ ins e d xs → y = e ∨ y ∈ xs
  | d, [], h => by cases d <;> simp [ins] at h; exact .inl h
  | d, x :: r, h => by
    rw [ins] at h
    rcases List.mem_append.1 h with h | h
    · split at h
      · exact .inl (by simpa using h)
      · simp at h
    · rcases List.mem_append.1 h with h | h
      · split at h
        · exact .inr (by simp at h; simp [h])
        · simp at h
      · rcases ins_mem e y _ r h with h | h
        · exact .inl h
        · exact .inr (by simp [h])

/-- In an ascending list the entry comes to its place. -/
theorem ins_asc (e : Ent) : ∀ xs : List Ent, Asc xs → Asc (ins e false xs)
  | [], _ => trivial
  | x :: r, h => by
    rw [ins]
    cases hg : geE x e
    · have hlt : ltB x.1.toList e.1.toList = true := by unfold geE at hg; simpa using hg
      have hn : neE x e = true := by
        unfold neE
        cases hx : x.1.toList == e.1.toList
        · rfl
        · rw [beq_iff_eq] at hx; rw [hx, ltB_self] at hlt; exact absurd hlt (by decide)
      rw [hn]
      simp only [Bool.not_false, Bool.and_false, Bool.false_eq_true, if_false, if_true, List.nil_append, Bool.or_false, List.singleton_append]
      exact asc_mk (ins_asc e r (asc_cons h)) fun y hy => by
        rcases ins_mem e y _ _ hy with rfl | hy
        · exact hlt
        · exact asc_head h y hy
    · simp only [Bool.not_false, Bool.and_true, if_true, Bool.or_true, ins_done, List.singleton_append]
      have hall : ∀ y ∈ x :: r, neE y e = true → ltB e.1.toList y.1.toList = true := by
        intro y hy hn
        refine ltB_of_ge_ne y e ?_ hn
        rcases List.mem_cons.1 hy with rfl | hy
        · exact hg
        · unfold geE at hg ⊢
          simp only [Bool.not_eq_true'] at hg ⊢
          exact ltB_asymm _ _ (le_lt _ _ _ hg (asc_head h y hy))
      have e1 : (if neE x e = true then [x] else []) ++ r.filter (neE · e) = (x :: r).filter (neE · e) := by
        rw [List.filter_cons]; split <;> rfl
      rw [e1]
      exact asc_mk (asc_filter _ h) fun y hy => hall y (List.mem_filter.1 hy).1 (by simpa using (List.mem_filter.1 hy).2)

theorem putL_asc (xs : List Ent) (e : Ent) (h : Asc xs) : Asc (putL xs e) := by rw [putL_ins]; exact ins_asc e xs h

theorem asc_at : ∀ (xs : List Ent), Asc xs → ∀ (k : Nat) (h : k + 1 < xs.length), ltB (xs[k]).1.toList (xs[k + 1]).1.toList = true
  | [], _, k, h => by simp at h
  | [_], _, k, h => by simp at h
  | x :: y :: r, ha, 0, _ => ha.1
  | x :: y :: r, ha, k + 1, h => by
    have := asc_at (y :: r) ha.2 k (by simpa using h)
    simpa using this
end

end Go.Proofs.Ytodenkamlbihnaa.PlainE
namespace Go.Proofs.Ytodenkamlbihnaa
end Go.Proofs.Ytodenkamlbihnaa
