/-
  A row that is kept ascending while words are put into it: its n-th state is the mergeSort of the first n words. No program is spoken of. Condition: none.
-/
import Derived.Test.YtddjggckmmdicaaSrtRow
namespace Go.Proofs.Ytddjggckmmdicaa
open Go.Sort
set_option linter.unusedVariables false

/-- The row behind one more word. -/
def bub (d : Array Nat) (y : Nat) : Array Nat := insInner ltW 0 d.size (d.push y)
/-- What the row is: in order, and these words. -/
structure Bub (ns : List Nat) (d : Array Nat) : Prop where
  sz : d.size = ns.length
  so : SortedIn ltW 0 d.size d
  pe : d.toList.Perm ns
theorem Bub.nil : Bub [] #[] := ⟨rfl, fun i j _ _ h => by simp at h, List.Perm.refl _⟩
theorem swo_w2 : SWO ltW := ⟨fun x => by simp [ltW], fun x y z h1 h2 => by simp only [ltW, decide_eq_true_eq] at *; omega, fun x y z h1 h2 => by simp only [ltW, decide_eq_false_iff_not] at *; omega⟩
theorem Bub.put {ns : List Nat} {d : Array Nat} (h : Bub ns d) (y : Nat) : Bub (ns ++ [y]) (bub d y) := by
  have hg : ∀ q, q < d.size → (d.push y)[q]! = d[q]! := fun q hq => by
    rw [getElem!_pos (d.push y) q (by simp; omega), getElem!_pos d q hq, Array.getElem_push_lt hq]
  have hI : Ins ltW 0 d.size d.size (d.push y) := ⟨fun p q hp hpq hq h1 h2 => by
    rw [hg p (by omega), hg q (by omega)]; exact h.so p q hp hpq (by omega), fun q h1 h2 => by omega⟩
  obtain ⟨⟨p1, _, p3⟩, hs⟩ := insInner_spec swo_w2 (fun _ _ _ _ _ => swp_permIn _ _ _ _ _) (permIn_refl) (permIn_trans) 0 (d.size + 1) d.size (by omega) d.size (d.push y) (Nat.zero_le _) (Nat.le_refl _) (by simp) hI
  have hz : (bub d y).size = d.size + 1 := by unfold bub; rw [p1]; simp
  refine ⟨by rw [hz, h.sz]; simp, by rw [hz]; exact hs, ?_⟩
  have e1 : ((bub d y).extract 0 (d.size + 1)).toList = (bub d y).toList := by rw [← hz]; simp
  have e2 : ((d.push y).extract 0 (d.size + 1)).toList = d.toList ++ [y] := by
    simp only [Array.toList_extract, Array.toList_push, List.extract_eq_take_drop, List.drop_zero, Nat.sub_zero]
    exact List.take_of_length_le (by simp)
  have p4 : (bub d y).toList.Perm (d.toList ++ [y]) := by rw [← e1, ← e2]; exact p3
  exact p4.trans (h.pe.append_right [y])
theorem Bub.sorted {ns : List Nat} {d : Array Nat} (h : Bub ns d) : ns.mergeSort (fun x y => decide (x ≤ y)) = d.toList := by
  refine (List.Perm.trans (List.mergeSort_perm _ _) h.pe.symm).eq_of_pairwise (le := fun x y => decide (x ≤ y) = true) ?_ ?_ ?_
  · intro a b _ _ h1 h2
    have := of_decide_eq_true h1
    have := of_decide_eq_true h2
    omega
  · exact List.pairwise_mergeSort (le := fun (x y : Nat) => decide (x ≤ y)) (fun a b c h1 h2 => decide_eq_true (Nat.le_trans (of_decide_eq_true h1) (of_decide_eq_true h2))) (fun a b => by rcases Nat.le_total a b with h | h <;> simp [h]) ns
  · rw [List.pairwise_iff_getElem]
    intro i j hi hj hij
    have := h.so i j (Nat.zero_le _) hij (by simpa using hj)
    simp only [ltW, decide_eq_false_iff_not] at this
    have hi' : i < d.size := by simpa using hi
    have hj' : j < d.size := by simpa using hj
    rw [getElem!_pos d i hi', getElem!_pos d j hj'] at this
    refine decide_eq_true ?_
    simp only [Array.getElem_toList]
    omega
end Go.Proofs.Ytddjggckmmdicaa
