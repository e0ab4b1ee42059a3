/-
  Plain facts about addresses: which address belongs to a cell of a node, chain, record or snapshot; bounds of products; what a call that makes memory only keeps of a block of seven or ten cells. No program is spoken of. Condition: none.
-/
import Derived.Test.YtddjggckmmdicaaMemPlain
import Derived.IntWalk
namespace Go.Proofs.Ytddjggckmmdicaa
open Go.RowKit Go.Deep
set_option linter.unusedVariables false

theorem mul_bd (x y X Y : Int) (hx : 0 ≤ x) (hX : x ≤ X) (hy : 0 ≤ y) (hY : y ≤ Y) : 0 ≤ x * y ∧ x * y ≤ X * Y :=
  ⟨Int.mul_nonneg hx hy, Int.mul_le_mul hX hY hy (by omega)⟩

/-- The sizes of a configuration lie within their limits. -/
structure Lim (T S N C R F : Int) : Prop where
  t1 : 1 ≤ T
  t2 : T ≤ 64
  s1 : 1 ≤ S
  s2 : S ≤ 8
  n1 : 1 ≤ N
  n2 : N ≤ 4096
  c1 : 1 ≤ C
  c2 : C ≤ 16384
  r1 : 1 ≤ R
  r2 : R ≤ 65536
  f1 : 4 ≤ F
  f2 : F ≤ 32
/-- The first node, chain and record lie within reach. -/
structure Reach3 (a b d : Int) : Prop where
  a1 : 0 ≤ a
  a2 : a ≤ 1000000
  b1 : 0 ≤ b
  b2 : b ≤ 1000000
  d1 : 0 ≤ d
  d2 : d ≤ 1000000

def firstNode (T S : Int) : Int := 8 + T * S
def firstChain (T S N F : Int) : Int := firstNode T S + (N * F + N * 4)
def firstRecord (T S N C F : Int) : Int := firstChain T S N F + C
def allCells (T S N C R F : Int) : Int := firstRecord T S N C F + R * 3
def snapAt (T S t j : Int) : Int := if 0 ≤ t ∧ t < T ∧ 0 ≤ j ∧ j < S then 8 + t * S + j else -1
def nodeAt (N F a n part : Int) : Int := if 1 ≤ n ∧ n ≤ N then a + ((n - 1) * F + (n - 1) * 4) + part else -1
def slotAt (N F a n i : Int) : Int := if 0 ≤ i ∧ i < F then nodeAt N F a n (4 + i) else -1
def chainAt (C b n : Int) : Int := if 1 ≤ n ∧ n ≤ C then b + (n - 1) else -1
def recAt (R d n part : Int) : Int := if 1 ≤ n ∧ n ≤ R then d + (n - 1) * 3 + part else -1

theorem Lim.ts {T S N C R F : Int} (h : Lim T S N C R F) : 0 ≤ T * S ∧ T * S ≤ 512 := mul_bd T S 64 8 (by have := h.t1; omega) h.t2 (by have := h.s1; omega) h.s2
theorem Lim.nf {T S N C R F : Int} (h : Lim T S N C R F) : 0 ≤ N * F ∧ N * F ≤ 131072 := mul_bd N F 4096 32 (by have := h.n1; omega) h.n2 (by have := h.f1; omega) h.f2
theorem nf4 (N F : Int) : N * (F + 4) = N * F + N * 4 := Int.mul_add _ _ _
theorem Lim.reach {T S N C R F : Int} (h : Lim T S N C R F) : Reach3 (firstNode T S) (firstChain T S N F) (firstRecord T S N C F) := by
  have := h.ts; have := h.nf; have := h.n1; have := h.n2; have := h.c1; have := h.c2
  unfold firstRecord firstChain firstNode
  constructor <;> omega

section
variable {W w w' : World} {r s : Nat} {x0 x1 x2 x3 x4 x5 x6 x7 x8 x9 y0 y1 y2 y3 y4 y5 y6 : Value}
theorem keep7 (hk : Kept (fun _ => False) w w') (hr : s < W.heap.size)
    (h : Kept (fun _ => False) W w ∧ w.cell? ⟨s, 0, none⟩ = some y0 ∧ w.cell? ⟨s, 1, none⟩ = some y1 ∧ w.cell? ⟨s, 2, none⟩ = some y2 ∧ w.cell? ⟨s, 3, none⟩ = some y3 ∧ w.cell? ⟨s, 4, none⟩ = some y4 ∧ w.cell? ⟨s, 5, none⟩ = some y5 ∧ w.cell? ⟨s, 6, none⟩ = some y6) :
    Kept (fun _ => False) W w' ∧ w'.cell? ⟨s, 0, none⟩ = some y0 ∧ w'.cell? ⟨s, 1, none⟩ = some y1 ∧ w'.cell? ⟨s, 2, none⟩ = some y2 ∧ w'.cell? ⟨s, 3, none⟩ = some y3 ∧ w'.cell? ⟨s, 4, none⟩ = some y4 ∧ w'.cell? ⟨s, 5, none⟩ = some y5 ∧ w'.cell? ⟨s, 6, none⟩ = some y6 := by
  obtain ⟨hK, h0, h1, h2, h3, h4, h5, h6⟩ := h
  have hs : s < w.heap.size := Nat.lt_of_lt_of_le hr hK.size
  have e : ∀ i, w'.cell? ⟨s, i, none⟩ = w.cell? ⟨s, i, none⟩ := fun i => hk.cell (p := ⟨s, i, none⟩) hs id
  exact ⟨hK.trans hk (fun _ _ h => h), (e _).trans h0, (e _).trans h1, (e _).trans h2, (e _).trans h3, (e _).trans h4, (e _).trans h5, (e _).trans h6⟩
theorem keep10 (hk : Kept (fun _ => False) w w') (hr : r < W.heap.size)
    (h : Kept (fun _ => False) W w ∧ w.cell? ⟨r, 0, none⟩ = some x0 ∧ w.cell? ⟨r, 1, none⟩ = some x1 ∧ w.cell? ⟨r, 2, none⟩ = some x2 ∧ w.cell? ⟨r, 3, none⟩ = some x3 ∧ w.cell? ⟨r, 4, none⟩ = some x4 ∧ w.cell? ⟨r, 5, none⟩ = some x5 ∧ w.cell? ⟨r, 6, none⟩ = some x6 ∧ w.cell? ⟨r, 7, none⟩ = some x7 ∧ w.cell? ⟨r, 8, none⟩ = some x8 ∧ w.cell? ⟨r, 9, none⟩ = some x9) :
    Kept (fun _ => False) W w' ∧ w'.cell? ⟨r, 0, none⟩ = some x0 ∧ w'.cell? ⟨r, 1, none⟩ = some x1 ∧ w'.cell? ⟨r, 2, none⟩ = some x2 ∧ w'.cell? ⟨r, 3, none⟩ = some x3 ∧ w'.cell? ⟨r, 4, none⟩ = some x4 ∧ w'.cell? ⟨r, 5, none⟩ = some x5 ∧ w'.cell? ⟨r, 6, none⟩ = some x6 ∧ w'.cell? ⟨r, 7, none⟩ = some x7 ∧ w'.cell? ⟨r, 8, none⟩ = some x8 ∧ w'.cell? ⟨r, 9, none⟩ = some x9 := by
  obtain ⟨hK, h0, h1, h2, h3, h4, h5, h6, h7, h8, h9⟩ := h
  have hs : r < w.heap.size := Nat.lt_of_lt_of_le hr hK.size
  have e : ∀ i, w'.cell? ⟨r, i, none⟩ = w.cell? ⟨r, i, none⟩ := fun i => hk.cell (p := ⟨r, i, none⟩) hs id
  exact ⟨hK.trans hk (fun _ _ h => h), (e _).trans h0, (e _).trans h1, (e _).trans h2, (e _).trans h3, (e _).trans h4, (e _).trans h5, (e _).trans h6, (e _).trans h7, (e _).trans h8, (e _).trans h9⟩
theorem keep17 (hk : Kept (fun _ => False) w w') (hr : r < W.heap.size) (hs : s < W.heap.size)
    (h : Kept (fun _ => False) W w ∧ w.cell? ⟨r, 0, none⟩ = some x0 ∧ w.cell? ⟨r, 1, none⟩ = some x1 ∧ w.cell? ⟨r, 2, none⟩ = some x2 ∧ w.cell? ⟨r, 3, none⟩ = some x3 ∧ w.cell? ⟨r, 4, none⟩ = some x4 ∧ w.cell? ⟨r, 5, none⟩ = some x5 ∧ w.cell? ⟨r, 6, none⟩ = some x6 ∧ w.cell? ⟨r, 7, none⟩ = some x7 ∧ w.cell? ⟨r, 8, none⟩ = some x8 ∧ w.cell? ⟨r, 9, none⟩ = some x9 ∧ w.cell? ⟨s, 0, none⟩ = some y0 ∧ w.cell? ⟨s, 1, none⟩ = some y1 ∧ w.cell? ⟨s, 2, none⟩ = some y2 ∧ w.cell? ⟨s, 3, none⟩ = some y3 ∧ w.cell? ⟨s, 4, none⟩ = some y4 ∧ w.cell? ⟨s, 5, none⟩ = some y5 ∧ w.cell? ⟨s, 6, none⟩ = some y6) :
    Kept (fun _ => False) W w' ∧ w'.cell? ⟨r, 0, none⟩ = some x0 ∧ w'.cell? ⟨r, 1, none⟩ = some x1 ∧ w'.cell? ⟨r, 2, none⟩ = some x2 ∧ w'.cell? ⟨r, 3, none⟩ = some x3 ∧ w'.cell? ⟨r, 4, none⟩ = some x4 ∧ w'.cell? ⟨r, 5, none⟩ = some x5 ∧ w'.cell? ⟨r, 6, none⟩ = some x6 ∧ w'.cell? ⟨r, 7, none⟩ = some x7 ∧ w'.cell? ⟨r, 8, none⟩ = some x8 ∧ w'.cell? ⟨r, 9, none⟩ = some x9 ∧ w'.cell? ⟨s, 0, none⟩ = some y0 ∧ w'.cell? ⟨s, 1, none⟩ = some y1 ∧ w'.cell? ⟨s, 2, none⟩ = some y2 ∧ w'.cell? ⟨s, 3, none⟩ = some y3 ∧ w'.cell? ⟨s, 4, none⟩ = some y4 ∧ w'.cell? ⟨s, 5, none⟩ = some y5 ∧ w'.cell? ⟨s, 6, none⟩ = some y6 := by
  obtain ⟨hK, h0, h1, h2, h3, h4, h5, h6, h7, h8, h9, g0, g1, g2, g3, g4, g5, g6⟩ := h
  have hr' : r < w.heap.size := Nat.lt_of_lt_of_le hr hK.size
  have hs' : s < w.heap.size := Nat.lt_of_lt_of_le hs hK.size
  have e : ∀ i, w'.cell? ⟨r, i, none⟩ = w.cell? ⟨r, i, none⟩ := fun i => hk.cell (p := ⟨r, i, none⟩) hr' id
  have f : ∀ i, w'.cell? ⟨s, i, none⟩ = w.cell? ⟨s, i, none⟩ := fun i => hk.cell (p := ⟨s, i, none⟩) hs' id
  exact ⟨hK.trans hk (fun _ _ h => h), (e _).trans h0, (e _).trans h1, (e _).trans h2, (e _).trans h3, (e _).trans h4, (e _).trans h5, (e _).trans h6, (e _).trans h7, (e _).trans h8, (e _).trans h9, (f _).trans g0, (f _).trans g1, (f _).trans g2, (f _).trans g3, (f _).trans g4, (f _).trans g5, (f _).trans g6⟩
end
theorem Calls.still {P : Program} {f : FuncId} {args : Array Value} {w : World} {n : Nat} {v : Value} (h : Calls P f args (w.drewN n) fun e w' => e = .returned v ∧ w.drewN n = w') :
    Calls P f args (w.drewN n) fun e w'' => e = .returned v ∧ ∃ m, w'' = w.drewN m := h.mono fun _ _ ⟨he, hm⟩ => ⟨he, n, hm.symm⟩

end Go.Proofs.Ytddjggckmmdicaa
