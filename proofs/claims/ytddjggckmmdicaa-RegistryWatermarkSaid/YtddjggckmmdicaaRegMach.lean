/-
  Open and Release of package registry in a memory whose snapshots are known as numbers: a step, whatever Published is at the time. Condition: words below 2^64; fewer than 2^63 accesses so far.
-/
import Derived.Test.YtddjggckmmdicaaRegAwake
namespace Go.Proofs.Ytddjggckmmdicaa
open Go.RowKit Go.Deep
set_option linter.unusedVariables false

def opV (p v V : Nat) : Nat := if p = 1 then V else v
def opX (p v : Nat) (x : Nat → Nat) (k : Nat) : Nat → Nat := if p = 0 then upd x k 1 else if p = 1 then x else upd x k (v + 1)
theorem upd_upd (x : Nat → Nat) (k a v : Nat) : upd (upd x k a) k v = upd x k v := by
  funext i; unfold upd; by_cases h : i = k <;> simp [h]

/-- A row of n words. -/
def rowN (x : Nat → Nat) (n : Nat) : List Nat := (List.range n).map x
theorem rowN_at (x : Nat → Nat) {n k : Nat} (h : k < n) : (words (rowN x n))[k]? = some (.int .u64 ((x k : Nat) : Int)) := by simp [words, rowN, h]
theorem rowN_set (x : Nat → Nat) (n k v : Nat) : (words (rowN x n)).set k (.int .u64 ((v : Nat) : Int)) = words (rowN (upd x k v) n) := by
  apply List.ext_getElem?
  intro i
  by_cases hi : i < n
  · rw [rowN_at _ hi]
    by_cases e : k = i
    · subst e; rw [List.getElem?_set_self (by simp [words, rowN, hi]), upd_at]
    · rw [List.getElem?_set_ne e, rowN_at _ hi, upd_ne _ _ (fun h => e h.symm)]
  · rw [List.getElem?_eq_none (by simp [words, rowN]; omega), List.getElem?_eq_none (by simp [words, rowN]; omega)]
theorem rowN_zero (n : Nat) : words (rowN (fun _ => 0) n) = List.replicate n (.int .u64 0) := by
  unfold words rowN
  rw [List.map_map]
  apply List.ext_getElem <;> simp

/-- The world of a statement: the memory, the layout, a row of words of the statement's own. -/
structure IV (w wr : World) (b g s h T S c V : Nat) (lay : List Value) (x y : Nat → Nat) : Prop where
  mem : ∃ l, Mem wr b g l c ∧ Sn l (T * S) V x
  lay : Blk wr s 29 lay
  row : Blk wr h 22 (words (rowN y (T * S)))
  lt : w.heap.size ≤ b ∧ w.heap.size ≤ g ∧ w.heap.size ≤ h
  ne : b ≠ h ∧ g ≠ h ∧ s ≠ b ∧ s ≠ g ∧ s ≠ h
  kept : Kept (fun _ => False) w wr
section
variable {w wr w2 : World} {b g s h T S c V c' V' : Nat} {lay : List Value} {x y x' : Nat → Nat}
theorem IV.next {K : Nat → Prop} (hv : IV w wr b g s h T S c V lay x y) (hK : Kept K wr w2) (hm : ∃ l, Mem w2 b g l c' ∧ Sn l (T * S) V' x') (hS : ∀ i, i < w.heap.size ∨ i = s ∨ i = h → ¬ K i) : IV w w2 b g s h T S c' V' lay x' y :=
  ⟨hm, hK.blk hv.lay (hS s (.inr (.inl rfl))), hK.blk hv.row (hS h (.inr (.inr rfl))), hv.lt, hv.ne, hv.kept.trans hK (fun i hi hk => (hS i (.inl hi) hk).elim)⟩
theorem IV.same0 (hv : IV w wr b g s h T S c V lay x y) (hK : Kept (fun _ => False) wr w2) : IV w w2 b g s h T S c V lay x y := by
  obtain ⟨l, hM, hs⟩ := hv.mem
  exact hv.next hK ⟨l, hM.kept hK id id, hs⟩ (fun _ _ h => h)
theorem IV.ext (hv : IV w wr b g s h T S c V lay x y) (e : x = x') : IV w wr b g s h T S c V lay x' y := by subst e; exact hv
theorem IV.set (hv : IV w wr b g s h T S c V lay x y) (k v : Nat) : IV w (wr.setCell ⟨h, k, none⟩ (.int .u64 ((v : Nat) : Int))) b g s h T S c V lay x (upd y k v) := by
  obtain ⟨l, hM, hs⟩ := hv.mem
  have hne := hv.ne
  have hlt := hv.lt
  exact ⟨⟨l, hM.setFar (fun e => hne.1 e.symm) (fun e => hne.2.1 e.symm) _ _, hs⟩, hv.lay.other (a := ⟨h, k, none⟩) hne.2.2.2.2 _, by rw [← rowN_set]; exact hv.row.set k _, hv.lt, hv.ne, hv.kept.setCell (a := ⟨h, k, none⟩) (fun hh => by simp only at hh; omega) _⟩
theorem IV.lts (hv : IV w wr b g s h T S c V lay x y) : b < wr.heap.size ∧ g < wr.heap.size ∧ s < wr.heap.size ∧ h < wr.heap.size ∧ w.heap.size ≤ wr.heap.size := by
  obtain ⟨l, hM, hs⟩ := hv.mem
  exact ⟨hM.obj.lt, hM.row.lt, hv.lay.lt, hv.row.lt, hv.kept.size⟩
theorem iv_poke (hv : IV w wr b g s h T S c V lay x y) (X : Nat) :
    Calls Try.prog 8 #[.pointer (some ⟨b, 0, none⟩), .int .i64 2, .agg #[.int .u64 (X : Int), .string ⟨#[]⟩, .int .u64 0]] wr fun e w' => e = .returned (.tuple #[]) ∧ IV w w' b g s h T S c X lay x y := by
  obtain ⟨l, hM, hs⟩ := hv.mem
  refine (poke_any b g l c 2 (X : Int) 0 ⟨#[]⟩ wr hM).mono ?_
  rintro e w' ⟨he, hM', hK⟩
  exact ⟨he, hv.next hK ⟨_, hM', hs.pub2 X⟩ (fun i hi => by have := hv.lt; have := hv.ne; unfold Own; omega)⟩
theorem iv_peek (hv : IV w wr b g s h T S c V lay x y) {k : Nat} (hk : k < T * S) :
    Calls Try.prog 22 #[.pointer (some ⟨b, 0, none⟩), .int .i64 ((8 + k : Nat) : Int)] wr fun e w' => e = .returned (.agg #[.int .u64 ((x k : Nat) : Int), .string ⟨#[]⟩, .int .u64 0]) ∧ Kept (fun _ => False) wr w' := by
  obtain ⟨l, hM, hs⟩ := hv.mem
  exact peek_any b g l c _ _ _ _ wr hM (hs.sn k hk)
theorem iv_peek_of (hv : IV w wr b g s h T S c V lay x y) {k u : Nat} (hk : k < T * S) (hu : x k = u) :
    Calls Try.prog 22 #[.pointer (some ⟨b, 0, none⟩), .int .i64 ((8 + k : Nat) : Int)] wr fun e w' => e = .returned (.agg #[.int .u64 (u : Int), .string ⟨#[]⟩, .int .u64 0]) ∧ Kept (fun _ => False) wr w' := by
  subst hu; exact iv_peek hv hk
end

end Go.Proofs.Ytddjggckmmdicaa
