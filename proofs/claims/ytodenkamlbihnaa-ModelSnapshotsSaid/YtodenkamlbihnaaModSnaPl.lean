/-
  What the law of the snapshots counts, as plain data: the six places, what has been found of them so far, and that all of it is the sorted list of the open snapshots. Condition: none.
-/
import Derived.Test.YtodenkamlbihnaaModIter
namespace Go.Proofs.Ytodenkamlbihnaa
open Go.RowKit Go.Deep Plain PlainE
set_option linter.unusedVariables false

theorem litP_inj2 {t j t' j' : Int} (h1 : (0 ≤ t ∧ t < 3) ∧ (0 ≤ j ∧ j < 2)) (h2 : (0 ≤ t' ∧ t' < 3) ∧ (0 ≤ j' ∧ j' < 2)) (h : litP t j = litP t' j') : t = t' ∧ j = j' := by
  have k1 := keyOf_pair h1.1 h1.2
  have k2 := keyOf_pair h2.1 h2.2
  rw [h] at k1
  have e := keyedP.inj k1 k2
  injection e with e
  have e2 := Array.mk.inj e
  have h3 := List.cons.inj e2
  have h4 := List.cons.inj h3.2
  exact ⟨(Value.int.inj h3.1).2, (Value.int.inj h4.1).2⟩
/-- Place i of the law's table. -/
def litI (i : Nat) : Lit := litP ((i / 2 : Nat) : Int) ((i % 2 : Nat) : Int)
def encO (o : Option Nat) : Nat := match o with
  | some x => x + 1
  | none => 0
def cellsO (sn : Lit → Option Nat) : List Value := (List.range 6).map fun i => .int .i64 ((encO (sn (litI i)) : Nat) : Int)
theorem cellsO_at (sn : Lit → Option Nat) {i : Nat} (hi : i < 6) : (cellsO sn)[i]? = some (.int .i64 ((encO (sn (litI i)) : Nat) : Int)) := by
  unfold cellsO; rw [List.getElem?_map, List.getElem?_range hi]; rfl
theorem litI_of {t j : Nat} (ht : t < 3) (hj : j < 2) : litP (t : Int) (j : Int) = litI (t * 2 + j) := by
  unfold litI
  rw [show (t * 2 + j) / 2 = t by omega, show (t * 2 + j) % 2 = j by omega]
theorem litI_inj {a b : Nat} (ha : a < 6) (hb : b < 6) (h : litI a = litI b) : a = b := by
  have h1 : (0 ≤ ((a / 2 : Nat) : Int) ∧ ((a / 2 : Nat) : Int) < 3) ∧ (0 ≤ ((a % 2 : Nat) : Int) ∧ ((a % 2 : Nat) : Int) < 2) := by omega
  have h2 : (0 ≤ ((b / 2 : Nat) : Int) ∧ ((b / 2 : Nat) : Int) < 3) ∧ (0 ≤ ((b % 2 : Nat) : Int) ∧ ((b % 2 : Nat) : Int) < 2) := by omega
  have := litP_inj2 h1 h2 h
  omega
theorem litI_key {i : Nat} (hi : i < 6) : WideAt.IsKeyLit (litI i) := keyedP.key (keyOf_pair (t := ((i / 2 : Nat) : Int)) (j := ((i % 2 : Nat) : Int)) (by omega) (by omega))
theorem updL_same {f : Lit → Option Nat} {i : Nat} (hi : i < 6) (v : Option Nat) : updL f (litI i) v (litI i) = v := by
  unfold updL; rw [if_pos (WideAt.sameKey_self (litI_key hi))]
theorem updL_other {f : Lit → Option Nat} {i k : Nat} (hi : i < 6) (hk : k < 6) (h : k ≠ i) (v : Option Nat) : updL f (litI i) v (litI k) = f (litI k) := by
  unfold updL; rw [if_neg (by rw [Maps.sameKey_ne fun e => h (litI_inj hk hi e)]; simp)]
theorem cellsO_set (sn : Lit → Option Nat) {i : Nat} (hi : i < 6) (v : Option Nat) : cellsO (updL sn (litI i) v) = (cellsO sn).set i (.int .i64 ((encO v : Nat) : Int)) := by
  refine List.ext_getElem? fun k => ?_
  by_cases hk : k < 6
  · rw [cellsO_at _ hk, List.getElem?_set]
    by_cases e : i = k
    · subst e
      rw [if_pos rfl, if_pos (by simp [cellsO]; omega), updL_same hi]
    · rw [if_neg e, cellsO_at _ hk, updL_other hi hk (fun e2 => e e2.symm)]
  · rw [List.getElem?_eq_none (by simp [cellsO]; omega), List.getElem?_eq_none (by simp [cellsO]; omega)]
/-- Only the six places are used, by times up to T. -/
def SnI (sn : Lit → Option Nat) (T : Nat) : Prop := ∀ kl x, sn kl = some x → x ≤ T ∧ ∃ i, i < 6 ∧ kl = litI i
theorem SnI.put {sn : Lit → Option Nat} {T : Nat} (h : SnI sn T) {i : Nat} (hi : i < 6) : SnI (updL sn (litI i) (some T)) T := fun kl x hx => by
  unfold updL at hx
  split at hx
  · rename_i he; cases hx; exact ⟨Nat.le_refl _, i, hi, WideAt.sameKey_eq he⟩
  · exact h kl x hx
theorem SnI.del {sn : Lit → Option Nat} {T : Nat} (h : SnI sn T) (a : Lit) : SnI (updL sn a none) T := fun kl x hx => by
  unfold updL at hx
  split at hx
  · cases hx
  · exact h kl x hx
theorem SnI.mono {sn : Lit → Option Nat} {T T' : Nat} (h : SnI sn T) (hT : T ≤ T') : SnI sn T' := fun kl x hx => ⟨Nat.le_trans (h kl x hx).1 hT, (h kl x hx).2⟩
/-- The places that hold x, among the first i. -/
def hitsI (sn : Lit → Option Nat) (x : Nat) : Nat → List Nat
  | 0 => []
  | i + 1 => hitsI sn x i ++ (if sn (litI i) = some x then [x] else [])
def wantL (sn : Lit → Option Nat) (x i : Nat) : List Nat := (List.range x).flatMap (fun y => hitsI sn y 6) ++ hitsI sn x i
theorem wantL_hit {sn : Lit → Option Nat} {x i : Nat} (h : sn (litI i) = some x) : wantL sn x (i + 1) = wantL sn x i ++ [x] := by
  unfold wantL; rw [hitsI, if_pos h, List.append_assoc]
theorem wantL_no {sn : Lit → Option Nat} {x i : Nat} (h : sn (litI i) ≠ some x) : wantL sn x (i + 1) = wantL sn x i := by
  unfold wantL; rw [hitsI, if_neg h, List.append_nil]
theorem wantL_nx (sn : Lit → Option Nat) (x : Nat) : wantL sn (x + 1) 0 = wantL sn x 6 := by
  unfold wantL; rw [List.range_succ, List.flatMap_append]; simp [hitsI]
theorem hitsI_mem {sn : Lit → Option Nat} {x y : Nat} : ∀ {i : Nat}, y ∈ hitsI sn x i → y = x
  | 0, h => by simp [hitsI] at h
  | i + 1, h => by
    unfold hitsI at h
    rcases List.mem_append.1 h with h | h
    · exact hitsI_mem h
    · split at h
      · simpa using h
      · simp at h
theorem hitsI_pair (sn : Lit → Option Nat) (x : Nat) : ∀ i, (hitsI sn x i).Pairwise (fun a b => a ≤ b)
  | 0 => List.Pairwise.nil
  | i + 1 => by
    unfold hitsI
    refine List.pairwise_append.2 ⟨hitsI_pair sn x i, ?_, fun a ha b hb => ?_⟩
    · split <;> simp
    · have := hitsI_mem ha
      split at hb
      · simp at hb; omega
      · simp at hb
theorem want_pair (sn : Lit → Option Nat) : ∀ x, ((List.range x).flatMap (fun y => hitsI sn y 6)).Pairwise (fun a b => a ≤ b) ∧ ∀ a ∈ (List.range x).flatMap (fun y => hitsI sn y 6), a < x
  | 0 => by simp
  | x + 1 => by
    obtain ⟨h1, h2⟩ := want_pair sn x
    rw [List.range_succ, List.flatMap_append]
    have e : [x].flatMap (fun y => hitsI sn y 6) = hitsI sn x 6 := by simp
    rw [e]
    refine ⟨List.pairwise_append.2 ⟨h1, hitsI_pair sn x 6, fun a ha b hb => ?_⟩, fun a ha => ?_⟩
    · have := h2 a ha; have := hitsI_mem hb; omega
    · rcases List.mem_append.1 ha with h | h
      · have := h2 a h; omega
      · have := hitsI_mem h; omega
/-- The places that are taken, among the first i, by times below x. -/
def belowI (sn : Lit → Option Nat) (x : Nat) : Nat → List Nat
  | 0 => []
  | i + 1 => belowI sn x i ++ (match sn (litI i) with | some y => if y < x then [y] else [] | none => [])
theorem belowI_zero (sn : Lit → Option Nat) : ∀ i, belowI sn 0 i = []
  | 0 => rfl
  | i + 1 => by
    unfold belowI; rw [belowI_zero sn i]
    cases sn (litI i) with
    | none => rfl
    | some y => simp
theorem belowI_step (sn : Lit → Option Nat) (x : Nat) : ∀ i, (belowI sn (x + 1) i).Perm (belowI sn x i ++ hitsI sn x i)
  | 0 => List.Perm.refl _
  | i + 1 => by
    have ih := belowI_step sn x i
    unfold belowI hitsI
    cases h : sn (litI i) with
    | none => simpa [h] using ih
    | some y =>
      simp only
      by_cases h1 : y < x
      · rw [if_pos (by omega), if_pos h1, if_neg (by intro e; cases e; omega), List.append_nil]
        refine (ih.append_right [y]).trans ?_
        rw [List.append_assoc, List.append_assoc]
        exact List.Perm.append_left _ List.perm_append_comm
      · by_cases h2 : y = x
        · subst h2
          rw [if_pos (by omega), if_neg h1, if_pos rfl, List.append_nil, ← List.append_assoc]
          exact ih.append_right [y]
        · rw [if_neg (by omega), if_neg h1, if_neg (by intro e; cases e; exact h2 rfl), List.append_nil, List.append_nil, List.append_nil]
          exact ih
theorem want_perm (sn : Lit → Option Nat) : ∀ x, ((List.range x).flatMap (fun y => hitsI sn y 6)).Perm (belowI sn x 6)
  | 0 => by rw [belowI_zero]; exact List.Perm.refl _
  | x + 1 => by
    rw [List.range_succ, List.flatMap_append]
    have e : [x].flatMap (fun y => hitsI sn y 6) = hitsI sn x 6 := by simp
    rw [e]
    exact ((want_perm sn x).append_right _).trans (belowI_step sn x 6).symm
/-- The names of the places that are taken. -/
def namesI (sn : Lit → Option Nat) : Nat → List Lit
  | 0 => []
  | i + 1 => namesI sn i ++ (if (sn (litI i)).isSome = true then [litI i] else [])
theorem namesI_mem {sn : Lit → Option Nat} {kl : Lit} : ∀ {i : Nat}, kl ∈ namesI sn i ↔ ∃ k, k < i ∧ kl = litI k ∧ (sn kl).isSome = true
  | 0 => by simp [namesI]
  | i + 1 => by
    unfold namesI
    rw [List.mem_append, namesI_mem]
    constructor
    · rintro (⟨k, h1, h2⟩ | h)
      · exact ⟨k, by omega, h2⟩
      · split at h
        · rename_i hs; simp at h; subst h; exact ⟨i, by omega, rfl, hs⟩
        · simp at h
    · rintro ⟨k, h1, h2, h3⟩
      by_cases e : k = i
      · subst e; right; subst h2; rw [if_pos h3]; simp
      · exact .inl ⟨k, by omega, h2, h3⟩
theorem namesI_nodup {sn : Lit → Option Nat} : ∀ {i : Nat}, i ≤ 6 → (namesI sn i).Nodup
  | 0, _ => List.nodup_nil
  | i + 1, h => by
    unfold namesI
    refine List.nodup_append.2 ⟨namesI_nodup (by omega), by split <;> simp, fun a ha b hb => ?_⟩
    obtain ⟨k, h1, h2, _⟩ := namesI_mem.1 ha
    split at hb
    · simp at hb; subst hb
      intro e
      have := litI_inj (a := k) (b := i) (by omega) (by omega) (h2.symm.trans e)
      omega
    · simp at hb
theorem namesI_vals {sn : Lit → Option Nat} {x : Nat} (h : SnI sn x) : ∀ i, i ≤ 6 → (namesI sn i).map sn = (belowI sn (x + 1) i).map some
  | 0, _ => rfl
  | i + 1, hi => by
    unfold namesI belowI
    rw [List.map_append, List.map_append, namesI_vals h i (by omega)]
    congr 1
    cases hs : sn (litI i) with
    | none => simp
    | some y =>
      have := (h _ y hs).1
      simp [hs, show y < x + 1 by omega]
theorem some_inj_map : ∀ {a b : List Nat}, a.map some = b.map some → a = b
  | [], [], _ => rfl
  | [], _ :: _, h => by simp at h
  | _ :: _, [], h => by simp at h
  | x :: a, y :: b, h => by
    simp at h
    rw [h.1, some_inj_map h.2]
/-- Whatever order they come in, they are those below. -/
theorem AllV.perm {sn : Lit → Option Nat} {T : Nat} (h : SnI sn T) {xs : List Nat} (ha : AllV sn xs) : xs.Perm (belowI sn (T + 1) 6) := by
  obtain ⟨ks, h1, h2, h3⟩ := ha
  have hp : ks.Perm (namesI sn 6) := (List.perm_ext_iff_of_nodup h1 (namesI_nodup (Nat.le_refl _))).2 fun kl => by
    rw [h2 kl, namesI_mem]
    constructor
    · intro hs
      obtain ⟨x, hx⟩ := Option.isSome_iff_exists.1 hs
      obtain ⟨_, i, hi, e⟩ := h kl x hx
      exact ⟨i, hi, e, hs⟩
    · rintro ⟨_, _, _, hs⟩; exact hs
  have h4 := hp.map sn
  rw [h3, namesI_vals h 6 (Nat.le_refl _)] at h4
  have h5 := h4.filterMap id
  simpa [List.filterMap_map] using h5
theorem belowI_len (sn : Lit → Option Nat) (x : Nat) : ∀ i, (belowI sn x i).length ≤ i
  | 0 => Nat.le_refl _
  | i + 1 => by
    have := belowI_len sn x i
    unfold belowI
    rw [List.length_append]
    split
    · split <;> simp <;> omega
    · simp; omega
/-- The law's list is the sorted one. -/
theorem want_sorted {sn : Lit → Option Nat} {T : Nat} (h : SnI sn T) {xs : List Nat} (ha : AllV sn xs) : xs.mergeSort (fun x y => decide (x ≤ y)) = wantL sn (T + 1) 0 := by
  have e : wantL sn (T + 1) 0 = (List.range (T + 1)).flatMap (fun y => hitsI sn y 6) := by unfold wantL; simp [hitsI]
  rw [e]
  have hp : (xs.mergeSort (fun x y => decide (x ≤ y))).Perm ((List.range (T + 1)).flatMap (fun y => hitsI sn y 6)) := (List.mergeSort_perm xs _).trans ((ha.perm h).trans (want_perm sn (T + 1)).symm)
  have hs := List.pairwise_mergeSort (le := fun x y : Nat => decide (x ≤ y)) (fun a b c h1 h2 => by simp at *; omega) (fun a b => by simp; omega) xs
  refine hp.eq_of_pairwise (le := fun x y : Nat => x ≤ y) (fun a b _ _ h1 h2 => Nat.le_antisymm h1 h2) (hs.imp (fun h => by simpa using h)) (want_pair sn (T + 1)).1
/-- The least that has been found so far. -/
def LeastI (sn : Lit → Option Nat) (T x i l : Nat) : Prop := l ≤ T ∧ (∀ a y, a < 6 → sn (litI a) = some y → (y < x ∨ (y = x ∧ a < i)) → l ≤ y) ∧ (l = T ∨ ∃ a, a < 6 ∧ sn (litI a) = some l)
theorem LeastI.nx {sn : Lit → Option Nat} {T x l : Nat} (h : LeastI sn T x 6 l) : LeastI sn T (x + 1) 0 l := ⟨h.1, fun a y ha hy hc => h.2.1 a y ha hy (by omega), h.2.2⟩
theorem LeastI.hit {sn : Lit → Option Nat} {T x i l : Nat} (h : LeastI sn T x i l) (hi : i < 6) (hs : sn (litI i) = some x) : LeastI sn T x (i + 1) (min l x) := ⟨by have := h.1; omega, fun a y ha hy hc => by
  by_cases e : a = i
  · subst e; rw [hs] at hy; cases hy; omega
  · have := h.2.1 a y ha hy (by omega); omega, by
  by_cases hl : l ≤ x
  · rw [show min l x = l by omega]; exact h.2.2
  · rw [show min l x = x by omega]; exact .inr ⟨i, hi, hs⟩⟩
theorem LeastI.no {sn : Lit → Option Nat} {T x i l : Nat} (h : LeastI sn T x i l) (hs : sn (litI i) ≠ some x) : LeastI sn T x (i + 1) l := ⟨h.1, fun a y ha hy hc => by
  by_cases e : a = i
  · subst e
    rcases hc with hc | hc
    · exact h.2.1 a y ha hy (.inl hc)
    · rw [hc.1] at hy; exact absurd hy hs
  · exact h.2.1 a y ha hy (by omega), h.2.2⟩
theorem LeastI.fin {sn : Lit → Option Nat} {T l : Nat} (hs : SnI sn T) (h : LeastI sn T (T + 1) 0 l) : IsWm sn T l := ⟨h.1, fun kl y hy => by
  obtain ⟨h1, i, hi, rfl⟩ := hs kl y hy
  exact h.2.1 i y hi hy (.inl (by omega)), h.2.2.imp id fun ⟨a, _, h⟩ => ⟨_, h⟩⟩
end Go.Proofs.Ytodenkamlbihnaa
