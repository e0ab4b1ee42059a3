/-
  That a region may be walked in the order of its text, shown from a summary of its operations (what each writes, looks at and waits for), in a few comparisons of numbers: for regions too great to be evaluated whole. Condition: none.
-/
import Derived.WalkKit
import Derived.Deep.QuietTactic
import Derived.BigQuiet
namespace Go.Proofs.Ytlooekocfcnbiaa
open Go.RowKit
set_option linter.unusedVariables false

abbrev Sm := Option Tmp × List Tmp × List Nat
def smd (md : Region.Mode) (ops : Array Oper) (o : Oper) : Sm := (o.dst, o.looksAt ops, (o.after.toList.filter (Region.binds md)).map (·.on))
def apartS (x y : Sm) : Bool :=
  (match x.1 with
   | some d => !(y.2.1).contains d && y.1 != some d
   | none => true) &&
  (match y.1 with
   | some d => !(x.2.1).contains d
   | none => true)
theorem apart_smd (md : Region.Mode) (ops : Array Oper) (x y : Oper) : x.apart ops y = apartS (smd md ops x) (smd md ops y) := rfl
def lexPairs : Nat → List Sm → Bool
  | _, [] => true
  | k, s :: rest => s.2.2.all (fun e => decide (e < k)) && rest.all (fun y => y.2.2.contains k || apartS s y) && lexPairs (k + 1) rest

section
variable {md : Region.Mode} {ops : Array Oper}
theorem lexFrom_pairs : ∀ (m k : Nat) (listed : Array Bool), k + m = ops.size → (∀ i, listed[i]? = if i < ops.size then some (decide (i < k)) else none) →
    lexPairs k ((ops.toList.map (smd md ops)).drop k) = true → Region.lexFrom md ops m k listed = true
  | 0, k, listed, hk, hg, _ => by
    simp only [Region.lexFrom, List.isEmpty_iff, Region.ready, List.filter_eq_nil_iff, List.mem_range]
    intro i hi
    have e : listed.getD i true = true := by rw [Array.getD_eq_getD_getElem?, hg i, if_pos hi]; simp; omega
    simp [e]
  | m + 1, k, listed, hk, hg, hp => by
    have hlt : k < ops.size := by omega
    have hL : (ops.toList.map (smd md ops)).drop k = smd md ops ops[k] :: (ops.toList.map (smd md ops)).drop (k + 1) := by
      rw [List.drop_eq_getElem_cons (by simpa using hlt)]; simp
    rw [hL] at hp
    simp only [lexPairs, Bool.and_eq_true, List.all_eq_true] at hp
    obtain ⟨⟨hdep, hap⟩, hrest⟩ := hp
    have hge : ∀ i d, i < ops.size → listed.getD i d = decide (i < k) := fun i d hi => by rw [Array.getD_eq_getD_getElem?, hg i, if_pos hi]; rfl
    have hok : ops[k]? = some ops[k] := Array.getElem?_eq_getElem hlt
    simp only [Region.lexFrom, Bool.and_eq_true]
    refine ⟨⟨?_, ?_⟩, ?_⟩
    · simp only [Region.ready, List.contains_eq_mem, decide_eq_true_eq, List.mem_filter, List.mem_range]
      refine ⟨hlt, ?_⟩
      rw [hge k true hlt, hok]
      simp only [Nat.lt_irrefl, decide_false, Bool.not_false, Bool.true_and, Option.map_some, Option.getD_some, Array.all_eq_true_iff_forall_mem]
      intro e he
      cases hb : Region.binds md e
      · rfl
      · have hm : e.on ∈ (smd md ops ops[k]).2.2 := by
          simp only [smd, List.mem_map, List.mem_filter]
          exact ⟨e, ⟨by simpa using he, hb⟩, rfl⟩
        have hlt2 : e.on < k := by simpa using hdep _ hm
        rw [hge e.on false (by omega)]
        simp [hlt2]
    · simp only [Region.free, hok, List.all_eq_true, List.mem_range]
      intro j hj
      by_cases h1 : j = k
      · simp [h1]
      by_cases h2 : j < k
      · simp [hge j true hj, h2]
      · have hjo : ops[j]? = some ops[j] := Array.getElem?_eq_getElem hj
        have hmem : smd md ops ops[j] ∈ (ops.toList.map (smd md ops)).drop (k + 1) := by
          rw [List.mem_drop_iff_getElem]
          exact ⟨j - (k + 1), by simp; omega, by simp [show k + 1 + (j - (k + 1)) = j by omega]⟩
        have hh := hap _ hmem
        rw [Bool.or_eq_true] at hh
        simp only [hjo, Bool.or_eq_true]
        right
        rcases hh with hh | hh
        · left
          simp only [smd, List.contains_eq_mem, decide_eq_true_eq, List.mem_map, List.mem_filter] at hh
          obtain ⟨e, ⟨he, hb⟩, hon⟩ := hh
          rw [← Array.any_toList, List.any_eq_true]
          exact ⟨e, he, by simp [hb, hon]⟩
        · right; rw [apart_smd md]; exact hh
    · refine lexFrom_pairs m (k + 1) _ (by omega) (fun i => ?_) hrest
      rw [Array.getElem?_setIfInBounds]
      by_cases hik : k = i
      · subst hik
        have : k < listed.size := by
          have := hg k; rw [if_pos hlt] at this; exact (Array.getElem?_eq_some_iff.1 this).1
        simp [this, hlt]
      · rw [if_neg hik, hg i]
        by_cases hi : i < ops.size
        · rw [if_pos hi, if_pos hi]; congr 1; simp; omega
        · rw [if_neg hi, if_neg hi]
theorem lexB_of (L : List Sm) (hL : ops.toList.map (smd md ops) = L) (hs : Region.noSelect ops = true) (hp : lexPairs 0 L = true) : Region.lexB md ops = true := by
  unfold Region.lexB
  rw [hs, Bool.true_and]
  refine lexFrom_pairs ops.size 0 _ (by omega) (fun i => ?_) (by rw [hL]; exact hp)
  by_cases hi : i < ops.size
  · rw [if_pos hi]; simp [hi]
  · rw [if_neg hi]; simp [hi]
end
end Go.Proofs.Ytlooekocfcnbiaa
