/-
  One round of the library's pdqsort at words, as equations over letters. No program is spoken of. Condition: none.
-/
import Derived.Test.YtddjggckmmdicaaSrtRow
namespace Go.Proofs.Ytddjggckmmdicaa
open Go.Sort
set_option linter.unusedVariables false

/-- The row, the pivot and the hint that a round goes on with. -/
structure Rnd (d : Array Nat) (a b limit : Nat) (wb wp : Bool) (d3 : Array Nat) (ok : Bool) (pv l2 : Nat) : Prop where
  eq : pdq ltW d a b limit wb wp = if ok then d3 else
    if a > 0 && !ltW d3[a - 1]! d3[pv]! then
      match partitionEqual ltW d3 a b pv with
      | (mid, d4) => if _h : a < mid ∧ mid ≤ b then pdq ltW d4 mid b l2 wb wp else d4
    else
      match Go.Sort.partition ltW d3 a b pv with
      | (mid, ap, d4) =>
        if _h : a ≤ mid ∧ mid < b then
          if mid - a < b - mid then
            pdq ltW (pdq ltW d4 a mid l2 true true) (mid + 1) b l2 (decide (mid - a ≥ (b - a) / 8)) ap
          else
            pdq ltW (pdq ltW d4 (mid + 1) b l2 true true) a mid l2 (decide (b - mid ≥ (b - a) / 8)) ap
        else d4
theorem rnd_of {d d1 d2 d3 : Array Nat} {a b limit l2 c pv : Nat} {wb wp ok : Bool} {h hint : Hint} (h12 : ¬ b - a ≤ 12) (h0 : ¬ limit = 0)
    (e1 : (if !wb then breakPatterns d a b else d) = d1) (e2 : (if !wb then limit - 1 else limit) = l2) (e3 : choosePivot ltW d1 a b = (c, h))
    (e4 : (if h = .decreasing then reverseRange d1 a b else d1) = d2) (e5 : (if h = .decreasing then (b - 1) - (c - a) else c) = pv) (e6 : (if h = .decreasing then Hint.increasing else h) = hint)
    (e7 : (if wb && wp && decide (hint = .increasing) then partialInsertionSort ltW d2 a b else (d2, false)) = (d3, ok)) : Rnd d a b limit wb wp d3 ok pv l2 := by
  obtain rfl : (choosePivot ltW d1 a b).1 = c := by rw [e3]
  obtain rfl : (choosePivot ltW d1 a b).2 = h := by rw [e3]
  obtain rfl : (if wb && wp && decide (hint = .increasing) then partialInsertionSort ltW d2 a b else (d2, false)).1 = d3 := by rw [e7]
  obtain rfl : (if wb && wp && decide (hint = .increasing) then partialInsertionSort ltW d2 a b else (d2, false)).2 = ok := by rw [e7]
  clear e3 e7
  subst e1 e2 e4 e5 e6
  constructor
  rw [pdq, if_neg h12, if_neg h0]
theorem Rnd.done {d d3 : Array Nat} {a b limit l2 pv : Nat} {wb wp : Bool} (h : Rnd d a b limit wb wp d3 true pv l2) : pdq ltW d a b limit wb wp = d3 := by rw [h.eq, if_pos rfl]
theorem Rnd.equal {d d3 d4 : Array Nat} {a b limit l2 pv m : Nat} {wb wp : Bool} (h : Rnd d a b limit wb wp d3 false pv l2) (ha : 0 < a) (hl : ltW d3[a - 1]! d3[pv]! = false) (hp : partitionEqual ltW d3 a b pv = (m, d4)) (h1 : a < m) (h2 : m ≤ b) : pdq ltW d a b limit wb wp = pdq ltW d4 m b l2 wb wp := by
  rw [h.eq, if_neg (by simp), if_pos (by rw [hl]; simp [ha]), hp]
  exact dif_pos ⟨h1, h2⟩
theorem Rnd.left {d d3 d4 : Array Nat} {a b limit l2 pv m : Nat} {wb wp ap : Bool} (h : Rnd d a b limit wb wp d3 false pv l2) (hl : ¬ 0 < a ∨ ltW d3[a - 1]! d3[pv]! = true) (hp : Go.Sort.partition ltW d3 a b pv = (m, ap, d4)) (h1 : a ≤ m) (h2 : m < b) (h3 : m - a < b - m) :
    pdq ltW d a b limit wb wp = pdq ltW (pdq ltW d4 a m l2 true true) (m + 1) b l2 (decide (m - a ≥ (b - a) / 8)) ap := by
  rw [h.eq, if_neg (by simp), if_neg (by rcases hl with hl | hl; simp [hl]; rw [hl]; simp), hp]
  exact (dif_pos ⟨h1, h2⟩).trans (if_pos h3)
theorem Rnd.right {d d3 d4 : Array Nat} {a b limit l2 pv m : Nat} {wb wp ap : Bool} (h : Rnd d a b limit wb wp d3 false pv l2) (hl : ¬ 0 < a ∨ ltW d3[a - 1]! d3[pv]! = true) (hp : Go.Sort.partition ltW d3 a b pv = (m, ap, d4)) (h1 : a ≤ m) (h2 : m < b) (h3 : ¬ m - a < b - m) :
    pdq ltW d a b limit wb wp = pdq ltW (pdq ltW d4 (m + 1) b l2 true true) a m l2 (decide (b - m ≥ (b - a) / 8)) ap := by
  rw [h.eq, if_neg (by simp), if_neg (by rcases hl with hl | hl; simp [hl]; rw [hl]; simp), hp]
  exact (dif_pos ⟨h1, h2⟩).trans (if_neg h3)
theorem pdq_ins {d : Array Nat} {a b limit : Nat} {wb wp : Bool} (h : b - a ≤ 12) : pdq ltW d a b limit wb wp = insertionSort ltW d a b := by rw [pdq, if_pos h]
theorem pdq_hp {d : Array Nat} {a b : Nat} {wb wp : Bool} (h : ¬ b - a ≤ 12) : pdq ltW d a b 0 wb wp = heapSort ltW d a b := by rw [pdq, if_neg h, if_pos rfl]
theorem pivot_in {d : Array Nat} {a b c : Nat} {h : Hint} (hab : a < b) (e : choosePivot ltW d a b = (c, h)) : a ≤ c ∧ c < b := by
  have := choosePivot_holds ltW d a b hab
  rw [e] at this; exact this
end Go.Proofs.Ytddjggckmmdicaa
