/-
  Plain facts of threads that take a timestamp each and publish it: what holds of their states and of both counters after any picks; that so many picks in turn suffice until all have finished. No program is spoken of. Condition: one to six threads, a limit of one to nine.
-/
import Derived.Test.YtmnfdecakjobjaaCloKit
namespace Go.Proofs.Ytmnfdecakjobjaa
set_option linter.unusedVariables false

/-- A thread: 0 will look at Allocated, 1 has looked, 2 has taken a timestamp and waits, 3 was refused, 4 is next to publish, 5 has published; the value that it saw, which is its timestamp less one. -/
def tk (y : Mac) : Mac := if 4 ≤ y.1 then (2, y.2) else y
def tks (L : List Mac) : List Mac := L.map tk
/-- The timestamp less one, of those that have one. -/
def tsOf (y : Mac) : Option Nat := if y.1 = 2 ∨ y.1 = 4 ∨ y.1 = 5 then some y.2 else none
def cntT (L : List Mac) : Nat := L.countP fun x => (tsOf x).isSome
def nexty (lim : Nat) (y : Mac) (A V : Nat) : Mac := if y.1 ≤ 1 then moved lim (y.2 + 1) y A else pmoved y V

theorem tsOf_some {y : Mac} {u : Nat} (h : tsOf y = some u) : (y.1 = 2 ∨ y.1 = 4 ∨ y.1 = 5) ∧ y.2 = u := by
  unfold tsOf at h; split at h
  · exact ⟨by assumption, Option.some.inj h⟩
  · cases h
theorem tsOf_none {y : Mac} (h : y.1 ≠ 2) (h4 : y.1 ≠ 4) (h5 : y.1 ≠ 5) : tsOf y = none := by unfold tsOf; rw [if_neg (by omega)]
theorem tsOf_of {y : Mac} (h : y.1 = 2 ∨ y.1 = 4 ∨ y.1 = 5) : tsOf y = some y.2 := by unfold tsOf; rw [if_pos h]
theorem cntT_set (y' : Mac) : ∀ (L : List Mac) (t : Nat) (y : Mac), L[t]? = some y → cntT (L.set t y') + (if (tsOf y).isSome then 1 else 0) = cntT L + (if (tsOf y').isSome then 1 else 0)
  | [], t, y, h => by simp at h
  | x :: r, 0, y, h => by
    simp at h; subst h
    simp only [cntT, List.set_cons_zero, List.countP_cons]
    omega
  | x :: r, t + 1, y, h => by
    have := cntT_set y' r t y (by simpa using h)
    simp only [cntT, List.set_cons_succ, List.countP_cons] at this ⊢
    omega
theorem cntT_le (L : List Mac) : cntT L ≤ L.length := List.countP_le_length
theorem tks_set (L : List Mac) (t : Nat) (y : Mac) : tks (L.set t y) = (tks L).set t (tk y) := by unfold tks; rw [List.map_set]
theorem tks_at {L : List Mac} {t : Nat} {y : Mac} (h : L[t]? = some y) : (tks L)[t]? = some (tk y) := by unfold tks; rw [List.getElem?_map, h]; rfl
theorem tks_length (L : List Mac) : (tks L).length = L.length := by unfold tks; rw [List.length_map]

/-- The timestamps that have been taken are 1 to A, each once. -/
structure Num (A : Nat) (L : List Mac) : Prop where
  sum : A = cntT L
  lt : ∀ (j : Nat) (x : Mac) (u : Nat), L[j]? = some x → tsOf x = some u → u < A
  ex : ∀ u, u < A → ∃ (j : Nat) (x : Mac), L[j]? = some x ∧ tsOf x = some u
  un : ∀ (i j : Nat) (x y : Mac) (u : Nat), L[i]? = some x → L[j]? = some y → tsOf x = some u → tsOf y = some u → i = j

theorem get_set {L : List Mac} {t j : Nat} {x y' : Mac} (h : (L.set t y')[j]? = some x) : (j = t ∧ x = y') ∨ (j ≠ t ∧ L[j]? = some x) := by
  by_cases hj : j = t
  · subst hj
    rw [List.getElem?_set] at h
    split at h
    · split at h
      · exact .inl ⟨rfl, (Option.some.inj h).symm⟩
      · cases h
    · rename_i h'; exact absurd rfl h'
  · rw [List.getElem?_set_ne (fun e => hj e.symm)] at h; exact .inr ⟨hj, h⟩

theorem Num.same {A t : Nat} {L : List Mac} {y y' : Mac} (h : Num A L) (hy : L[t]? = some y) (e : tsOf y' = tsOf y) : Num A (L.set t y') := by
  have hc := cntT_set y' L t y hy
  rw [e] at hc
  have back : ∀ (j : Nat) (x : Mac), (L.set t y')[j]? = some x → ∃ z, L[j]? = some z ∧ tsOf z = tsOf x := fun j x hx => by
    rcases get_set hx with ⟨rfl, rfl⟩ | ⟨_, hx⟩
    · exact ⟨y, hy, e.symm⟩
    · exact ⟨x, hx, rfl⟩
  refine ⟨by have := h.sum; omega, fun j x u hx hu => ?_, fun u hu => ?_, fun i j x z u hx hz hxu hzu => ?_⟩
  · obtain ⟨z, hz, ez⟩ := back j x hx
    exact h.lt j z u hz (ez.trans hu)
  · obtain ⟨j, x, hx, hu⟩ := h.ex u hu
    by_cases hj : j = t
    · subst hj
      obtain rfl : y = x := Option.some.inj (hy.symm.trans hx)
      exact ⟨j, y', set_self hy, e.trans hu⟩
    · exact ⟨j, x, set_other j x hj hx, hu⟩
  · obtain ⟨x', hx', ex'⟩ := back i x hx
    obtain ⟨z', hz', ez'⟩ := back j z hz
    exact h.un i j x' z' u hx' hz' (ex'.trans hxu) (ez'.trans hzu)
theorem Num.take {A t : Nat} {L : List Mac} {y y' : Mac} (h : Num A L) (hy : L[t]? = some y) (e : tsOf y = none) (e' : tsOf y' = some A) : Num (A + 1) (L.set t y') := by
  have hc := cntT_set y' L t y hy
  rw [e, e'] at hc
  simp only [Option.isSome_none, Option.isSome_some, if_true, Bool.false_eq_true, if_false] at hc
  refine ⟨by have := h.sum; omega, fun j x u hx hu => ?_, fun u hu => ?_, fun i j x z u hx hz hxu hzu => ?_⟩
  · rcases get_set hx with ⟨rfl, rfl⟩ | ⟨_, hx⟩
    · rw [e'] at hu; have := Option.some.inj hu; omega
    · have := h.lt j x u hx hu; omega
  · by_cases hA : u = A
    · subst hA; exact ⟨t, y', set_self hy, e'⟩
    · obtain ⟨j, x, hx, hu⟩ := h.ex u (by omega)
      refine ⟨j, x, set_other j x (fun hj => ?_) hx, hu⟩
      subst hj
      obtain rfl : y = x := Option.some.inj (hy.symm.trans hx)
      rw [e] at hu; cases hu
  · rcases get_set hx with ⟨rfl, rfl⟩ | ⟨hi, hx2⟩ <;> rcases get_set hz with ⟨rfl, rfl⟩ | ⟨hj, hz2⟩
    · rfl
    · have := h.lt j z u hz2 hzu; rw [e'] at hxu; have := Option.some.inj hxu; omega
    · have := h.lt i x u hx2 hxu; rw [e'] at hzu; have := Option.some.inj hzu; omega
    · exact h.un i j x z u hx2 hz2 hxu hzu

structure Ck (n lim : Nat) (L : List Mac) (A V : Nat) : Prop where
  n1 : 1 ≤ n
  n6 : n ≤ 6
  l1 : 1 ≤ lim
  l9 : lim ≤ 9
  len : L.length = n
  st : ∀ (j : Nat) (x : Mac), L[j]? = some x → x.1 ≤ 5
  num : Num A L
  le : A ≤ lim
  va : V ≤ A
  look : ∀ (j : Nat) (x : Mac), L[j]? = some x → x.1 = 1 → x.2 < lim
  pub : ∀ (j : Nat) (x : Mac) (u : Nat), L[j]? = some x → tsOf x = some u → (x.1 = 5 ↔ u < V)
  rdy : ∀ (j : Nat) (x : Mac), L[j]? = some x → x.1 = 4 → x.2 = V
  ref : ∀ (j : Nat) (x : Mac), L[j]? = some x → x.1 = 3 → lim ≤ A
  sm : ∀ (j : Nat) (x : Mac), L[j]? = some x → x.2 ≤ 9

theorem set_ok {L : List Mac} {t : Nat} {y' : Mac} {p : Nat → Mac → Prop} (hs : p t y') (ho : ∀ (j : Nat) (x : Mac), L[j]? = some x → p j x) : ∀ (j : Nat) (x : Mac), (L.set t y')[j]? = some x → p j x := set_all hs fun j x _ => ho j x

theorem Ck.an {n lim A V : Nat} {L : List Mac} (h : Ck n lim L A V) : A ≤ n := by have := h.num.sum; have := cntT_le L; have := h.len; omega
theorem Ck.step {n lim A A' V V' t : Nat} {L : List Mac} {y y' : Mac} (h : Ck n lim L A V) (hy : L[t]? = some y) (hm : nexty lim y A V = y') (hA : counts (y.2 + 1) y A = A') (hV : pcounts y V = V') : Ck n lim (L.set t y') A' V' := by
  obtain ⟨s, N⟩ := y
  have hs := h.st t _ hy
  have hN9 := h.sm t _ hy
  have hle := h.le
  have hl9 := h.l9
  have hlen : ∀ z, (L.set t z).length = n := fun z => by rw [List.length_set]; exact h.len
  simp only at hs hm hA hV hN9
  rcases (by omega : s = 0 ∨ s = 1 ∨ s = 2 ∨ s = 3 ∨ s = 4 ∨ s = 5) with rfl | rfl | rfl | rfl | rfl | rfl
  · obtain rfl : A = A' := by simpa [counts] using hA
    obtain rfl : V = V' := by simpa [pcounts] using hV
    by_cases hl : lim ≤ A
    · obtain rfl : (3, A) = y' := by simpa [nexty, moved, hl] using hm
      exact ⟨h.n1, h.n6, h.l1, h.l9, hlen _, set_ok (by simp) h.st, h.num.same hy rfl, h.le, h.va, set_ok (by simp) h.look, fun j x u hx => set_ok (p := fun j x => tsOf x = some u → (x.1 = 5 ↔ u < V)) (fun e => by cases e) (fun j x hx => h.pub j x u hx) j x hx, set_ok (by simp) h.rdy, set_ok (fun _ => hl) h.ref, set_ok (by simp only; omega) h.sm⟩
    · obtain rfl : (1, A) = y' := by simpa [nexty, moved, hl] using hm
      exact ⟨h.n1, h.n6, h.l1, h.l9, hlen _, set_ok (by simp) h.st, h.num.same hy rfl, h.le, h.va, set_ok (fun _ => by simp only; omega) h.look, fun j x u hx => set_ok (p := fun j x => tsOf x = some u → (x.1 = 5 ↔ u < V)) (fun e => by cases e) (fun j x hx => h.pub j x u hx) j x hx, set_ok (by simp) h.rdy, set_ok (by simp) h.ref, set_ok (by simp only; omega) h.sm⟩
  · obtain rfl : V = V' := by simpa [pcounts] using hV
    have hlk := h.look t _ hy rfl
    simp only at hlk
    by_cases hl : N = A
    · subst hl
      obtain rfl : (2, N) = y' := by simpa [nexty, moved] using hm
      obtain rfl : N + 1 = A' := by simpa [counts] using hA
      have hva := h.va
      exact ⟨h.n1, h.n6, h.l1, h.l9, hlen _, set_ok (by simp) h.st, h.num.take hy rfl rfl, by omega, by omega, set_ok (by simp) h.look, fun j x u hx => set_ok (p := fun j x => tsOf x = some u → (x.1 = 5 ↔ u < V)) (fun e => by obtain rfl := Option.some.inj e; simp only; omega) (fun j x hx => h.pub j x u hx) j x hx, set_ok (by simp) h.rdy, set_ok (by simp) (fun j x hx e => by have := h.ref j x hx e; omega), set_ok hN9 h.sm⟩
    · obtain rfl : (0, N) = y' := by simpa [nexty, moved, hl] using hm
      obtain rfl : A = A' := by simpa [counts, hl] using hA
      exact ⟨h.n1, h.n6, h.l1, h.l9, hlen _, set_ok (by simp) h.st, h.num.same hy rfl, h.le, h.va, set_ok (by simp) h.look, fun j x u hx => set_ok (p := fun j x => tsOf x = some u → (x.1 = 5 ↔ u < V)) (fun e => by cases e) (fun j x hx => h.pub j x u hx) j x hx, set_ok (by simp) h.rdy, set_ok (by simp) h.ref, set_ok hN9 h.sm⟩
  · obtain rfl : A = A' := by simpa [counts] using hA
    obtain rfl : V = V' := by simpa [pcounts] using hV
    have hp := h.pub t _ N hy rfl
    by_cases hl : N = V
    · subst hl
      obtain rfl : (4, N) = y' := by simpa [nexty, pmoved] using hm
      exact ⟨h.n1, h.n6, h.l1, h.l9, hlen _, set_ok (by simp) h.st, h.num.same hy rfl, h.le, h.va, set_ok (by simp) h.look, fun j x u hx => set_ok (p := fun j x => tsOf x = some u → (x.1 = 5 ↔ u < N)) (fun e => by obtain rfl := Option.some.inj e; simp) (fun j x hx => h.pub j x u hx) j x hx, set_ok (fun _ => rfl) h.rdy, set_ok (by simp) h.ref, set_ok hN9 h.sm⟩
    · obtain rfl : (2, N) = y' := by simpa [nexty, pmoved, hl] using hm
      exact ⟨h.n1, h.n6, h.l1, h.l9, hlen _, set_ok (by simp) h.st, h.num.same hy rfl, h.le, h.va, set_ok (by simp) h.look, fun j x u hx => set_ok (p := fun j x => tsOf x = some u → (x.1 = 5 ↔ u < V)) (fun e => by obtain rfl := Option.some.inj e; exact hp) (fun j x hx => h.pub j x u hx) j x hx, set_ok (by simp) h.rdy, set_ok (by simp) h.ref, set_ok hN9 h.sm⟩
  · obtain rfl : A = A' := by simpa [counts] using hA
    obtain rfl : V = V' := by simpa [pcounts] using hV
    obtain rfl : (3, N) = y' := by simpa [nexty, pmoved] using hm
    exact ⟨h.n1, h.n6, h.l1, h.l9, hlen _, set_ok (by simp) h.st, h.num.same hy rfl, h.le, h.va, set_ok (by simp) h.look, fun j x u hx => set_ok (p := fun j x => tsOf x = some u → (x.1 = 5 ↔ u < V)) (fun e => by cases e) (fun j x hx => h.pub j x u hx) j x hx, set_ok (by simp) h.rdy, set_ok (fun _ => h.ref t _ hy rfl) h.ref, set_ok hN9 h.sm⟩
  · obtain rfl : A = A' := by simpa [counts] using hA
    obtain rfl : N + 1 = V' := by simpa [pcounts] using hV
    obtain rfl : (5, N) = y' := by simpa [nexty, pmoved] using hm
    obtain rfl : N = V := h.rdy t _ hy rfl
    have hlt := h.num.lt t _ N hy rfl
    have hothers : ∀ (j : Nat) (x : Mac) (u : Nat), j ≠ t → L[j]? = some x → tsOf x = some u → u ≠ N := fun j x u hj hx hu e => by subst e; exact hj (h.num.un j t x _ u hx hy hu rfl)
    refine ⟨h.n1, h.n6, h.l1, h.l9, hlen _, set_ok (by simp) h.st, h.num.same hy rfl, h.le, hlt, set_ok (by simp) h.look, fun j x u hx => set_all (p := fun j x => tsOf x = some u → (x.1 = 5 ↔ u < N + 1)) (fun e => by obtain rfl := Option.some.inj e; simp) (fun j x hj hx e => ?_) j x hx, set_all (by simp) (fun j x hj hx e => ?_), set_ok (by simp) h.ref, set_ok hN9 h.sm⟩
    · have h1 := h.pub j x u hx e
      have h2 := hothers j x u hj hx e
      omega
    · exact absurd (h.rdy j x hx e) (hothers j x x.2 hj hx (tsOf_of (.inr (.inl e))))
  · obtain rfl : A = A' := by simpa [counts] using hA
    obtain rfl : V = V' := by simpa [pcounts] using hV
    obtain rfl : (5, N) = y' := by simpa [nexty, pmoved] using hm
    exact ⟨h.n1, h.n6, h.l1, h.l9, hlen _, set_ok (by simp) h.st, h.num.same hy rfl, h.le, h.va, set_ok (by simp) h.look, fun j x u hx => set_ok (p := fun j x => tsOf x = some u → (x.1 = 5 ↔ u < V)) (fun e => by obtain rfl := Option.some.inj e; exact h.pub t _ _ hy rfl) (fun j x hx => h.pub j x u hx) j x hx, set_ok (by simp) h.rdy, set_ok (by simp) h.ref, set_ok hN9 h.sm⟩
theorem Ck.start (n lim : Nat) (h1 : 1 ≤ n) (h6 : n ≤ 6) (l1 : 1 ≤ lim) (l9 : lim ≤ 9) : Ck n lim (List.replicate n (0, 0)) 0 0 := by
  have hx : ∀ (j : Nat) (x : Mac), (List.replicate n ((0, 0) : Mac))[j]? = some x → x = (0, 0) := fun j x h => (List.mem_replicate.1 (List.mem_of_getElem? h)).2
  have c0 : cntT (List.replicate n ((0, 0) : Mac)) = 0 := by simp [cntT, List.countP_replicate, tsOf]
  have no1 : ∀ (j : Nat) (x : Mac) (q : Prop), (List.replicate n ((0, 0) : Mac))[j]? = some x → 1 ≤ x.1 → q := fun j x q h e => by rw [hx j x h] at e; simp at e
  have no2 : ∀ (j : Nat) (x : Mac) (u : Nat) (q : Prop), (List.replicate n ((0, 0) : Mac))[j]? = some x → tsOf x = some u → q := fun j x u q h e => by
    rw [hx j x h] at e
    cases e
  exact ⟨h1, h6, l1, l9, by simp, fun j x h => by rw [hx j x h]; simp, ⟨c0.symm, fun j x u h e => no2 j x u _ h e, fun u h => by omega, fun i j x y u h _ e _ => no2 i x u _ h e⟩, by omega, by omega, fun j x h e => no1 j x _ h (by omega), fun j x u h e => no2 j x u _ h e, fun j x h e => no1 j x _ h (by omega), fun j x h e => no1 j x _ h (by omega), fun j x h => by rw [hx j x h]; simp⟩

/-- How many picks of its own a publisher needs whose turn it is. -/
def needP (y : Mac) : Nat := if y.1 = 4 then 1 else 2
theorem needP_le (y : Mac) : 1 ≤ needP y ∧ needP y ≤ 2 := by unfold needP; split <;> omega
/-- So many picks in turn suffice until all timestamps are published, once all have been taken. -/
def GoodP (n : Nat) (L : List Mac) (A V k x : Nat) : Prop :=
  V = A ∨ ∃ (t : Nat) (y : Mac), L[t]? = some y ∧ tsOf y = some V ∧ 2 * (n * (A - V - 1)) + ahead n k t + 1 + n * (needP y - 1) ≤ x
theorem GoodP.any {n lim A V : Nat} {L : List Mac} (h : Ck n lim L A V) (k x : Nat) (hx : V < A → 2 * (n * (A - V - 1)) + 2 * n ≤ x) : GoodP n L A V k x := by
  by_cases hv : V = A
  · exact .inl hv
  · have hva := h.va
    obtain ⟨t, y, hy, hu⟩ := h.num.ex V (by omega)
    refine .inr ⟨t, y, hy, hu, ?_⟩
    have h1 := ahead_lt (k := k) (t := t) h.n1
    have h2 := mul_le' (n := n) (show needP y - 1 ≤ 1 by have := (needP_le y).2; omega)
    have h3 := hx (by omega)
    omega
theorem GoodP.zero {n A V k : Nat} {L : List Mac} (h : GoodP n L A V k 0) : V = A := by
  rcases h with h | ⟨t, y, _, _, h⟩
  · exact h
  · omega
theorem GoodP.step {n lim A V V' k x : Nat} {L : List Mac} {y y' : Mac} (g : GoodP n L A V k x) (h : Ck n lim L A V) (hy : L[k % n]? = some y) (h2 : 2 ≤ y.1) (hm : pmoved y V = y') (hv : pcounts y V = V') (h' : Ck n lim (L.set (k % n) y') A V') : GoodP n (L.set (k % n) y') A V' (k + 1) (x - 1) := by
  have hlen := h.len
  by_cases h4 : y.1 = 4
  · have hN := h.rdy _ y hy h4
    have hlt := h.num.lt _ y _ hy (tsOf_of (.inr (.inl h4)))
    obtain rfl : V + 1 = V' := by rw [← hv]; unfold pcounts; rw [if_pos h4, hN]
    refine GoodP.any h' _ _ fun hlt' => ?_
    rcases g with g | ⟨t, z, hz, hu, hx⟩
    · omega
    · have h3 := mul_pred (n := n) (a := A - V - 1) (by omega)
      rw [show A - (V + 1) - 1 = A - V - 1 - 1 by omega]
      omega
  · obtain rfl : V = V' := by rw [← hv]; unfold pcounts; rw [if_neg h4]
    rcases g with g | ⟨t, z, hz, hu, hx⟩
    · exact .inl g
    · by_cases ht : t = k % n
      · subst ht
        obtain rfl : y = z := Option.some.inj (hy.symm.trans hz)
        obtain ⟨h5, hN⟩ := tsOf_some hu
        have hp := h.pub _ y V hy hu
        have he : y.1 = 2 := by omega
        obtain rfl : (4, V) = y' := by rw [← hm]; unfold pmoved; rw [if_pos he, if_pos hN, hN]
        have := ahead_lt (k := k + 1) (t := k % n) h.n1
        have hn2 : needP y = 2 := by unfold needP; rw [if_neg h4]
        rw [hn2] at hx
        exact .inr ⟨k % n, (4, V), set_self hy, rfl, by simp only [needP, if_true]; omega⟩
      · have htn : t < n := by rw [← hlen]; exact (List.getElem?_eq_some_iff.1 hz).1
        have := ahead_next (k := k) h.n1 h.n6 htn ht
        exact .inr ⟨t, z, set_other t z ht hz, hu, by omega⟩

/-- So many picks in turn suffice in all: first until all have taken, then until all have published. -/
def Enough (n P : Nat) (L : List Mac) (A V k : Nat) : Prop := Good n (tks L) A k (3 * (n * n) - (k - P)) ∧ (3 * (n * n) ≤ k - P → GoodP n L A V k (5 * (n * n) - (k - P)))
theorem tk_next {lim A V : Nat} {y : Mac} (hs : y.1 ≤ 5) : tk (nexty lim y A V) = moved lim ((tk y).2 + 1) (tk y) A ∧ counts ((tk y).2 + 1) (tk y) A = counts (y.2 + 1) y A ∧ (tk y).1 ≤ 3 := by
  obtain ⟨s, N⟩ := y
  simp only at hs
  rcases (by omega : s = 0 ∨ s = 1 ∨ s = 2 ∨ s = 3 ∨ s = 4 ∨ s = 5) with rfl | rfl | rfl | rfl | rfl | rfl
  · by_cases hl : lim ≤ A <;> simp [tk, nexty, moved, counts, hl]
  · by_cases hl : N = A <;> simp [tk, nexty, moved, counts, hl]
  · by_cases hl : N = V <;> simp [tk, nexty, pmoved, moved, counts, hl]
  all_goals simp [tk, nexty, pmoved, moved, counts]
theorem unf_tks {L : List Mac} {t : Nat} {y : Mac} (h0 : unf (tks L) = 0) (h : L[t]? = some y) : 2 ≤ y.1 := by
  by_cases e : 2 ≤ y.1
  · exact e
  · have h1 : tk y = y := by unfold tk; rw [if_neg (by omega)]
    have := unf_pos (tks L) t _ (tks_at h) (by rw [h1]; omega)
    omega
theorem sq_le {n m : Nat} (h : m ≤ n) (h1 : 1 ≤ m) : 2 * (n * (m - 1)) + 2 * n ≤ 2 * (n * n) := by
  have h1 := mul_pred (n := n) (a := m) h1
  have h2 := mul_le' (n := n) h
  omega
theorem Enough.start {n lim P A V k : Nat} {L : List Mac} (h : Ck n lim L A V) (hk : k ≤ P) : Enough n P L A V k :=
  ⟨by rw [show k - P = 0 by omega, Nat.sub_zero]; exact Good.any (by rw [tks_length]; exact h.len) h.n1 _ _, fun h3 => by have := h.n1; have := Nat.mul_le_mul this this; omega⟩
theorem Enough.step {n lim P A A' V V' k t : Nat} {L : List Mac} {y y' : Mac} (g : Enough n P L A V k) (h : Ck n lim L A V) (hy : L[t]? = some y) (ht : k < P ∨ t = k % n) (hm : nexty lim y A V = y') (hA : counts (y.2 + 1) y A = A') (hV : pcounts y V = V') : Enough n P (L.set t y') A' V' (k + 1) := by
  have h' := h.step hy hm hA hV
  have hs := h.st t y hy
  obtain ⟨e1, e2, e3⟩ := tk_next (lim := lim) (A := A) (V := V) hs
  have g1 : Good n (tks (L.set t y')) A' (k + 1) (3 * (n * n) - (k + 1 - P)) := by
    rw [tks_set, ← hm, e1, ← hA, ← e2]
    exact good_step g.1 (by rw [tks_length]; exact h.len) h.n1 h.n6 (tks_at hy) e3 ht
  refine ⟨g1, fun h3 => ?_⟩
  have han := h'.an
  by_cases hk : 3 * (n * n) ≤ k - P
  · have g2 := g.2 hk
    have hP : P ≤ k := by have := Nat.mul_le_mul h.n1 h.n1; omega
    obtain rfl : t = k % n := by omega
    have h0 := g.1
    rw [show 3 * (n * n) - (k - P) = 0 by omega] at h0
    have h2 := unf_tks h0.zero hy
    obtain rfl : A = A' := by rw [← hA]; unfold counts; rw [if_neg (by omega)]
    have hpm : pmoved y V = y' := by rw [← hm]; unfold nexty; rw [if_neg (by omega)]
    rw [show 5 * (n * n) - (k + 1 - P) = 5 * (n * n) - (k - P) - 1 by omega]
    exact g2.step h hy h2 hpm hV h'
  · refine GoodP.any h' _ _ fun hlt => ?_
    have h4 := sq_le (n := n) (m := A' - V') (by omega) (by omega)
    omega
/-- When all picks are done, all have finished, and every timestamp that was taken is published. -/
theorem Enough.done {n lim P A V k : Nat} {L : List Mac} (g : Enough n P L A V k) (h : Ck n lim L A V) {m : Nat} (hm : 30 ≤ m) (hk : P + m * n ≤ k) : V = A ∧ (∀ (t : Nat) (y : Mac), L[t]? = some y → y.1 = 3 ∨ y.1 = 5) ∧ (A = n ∧ n ≤ lim ∨ A = lim ∧ lim ≤ n) := by
  have hx : 5 * (n * n) ≤ m * n := by
    have h1 := mul_le' (n := n) h.n6
    have h2 := Nat.mul_le_mul_right n hm
    omega
  have g2 := g.2 (by omega)
  rw [show 5 * (n * n) - (k - P) = 0 by omega] at g2
  have h0 := g.1
  rw [show 3 * (n * n) - (k - P) = 0 by omega] at h0
  have hV := g2.zero
  have hall : ∀ (t : Nat) (y : Mac), L[t]? = some y → y.1 = 3 ∨ y.1 = 5 := fun t y hy => by
    have h2 := unf_tks h0.zero hy
    have h5 := h.st t y hy
    by_cases h3 : y.1 = 3
    · exact .inl h3
    · have ht : y.1 = 2 ∨ y.1 = 4 ∨ y.1 = 5 := by omega
      have hlt := h.num.lt t y _ hy (tsOf_of ht)
      have hp := h.pub t y _ hy (tsOf_of ht)
      exact .inr (hp.2 (by omega))
  refine ⟨hV, hall, ?_⟩
  have han := h.an
  have hle := h.le
  by_cases hr : ∃ (t : Nat) (y : Mac), L[t]? = some y ∧ y.1 = 3
  · obtain ⟨t, y, hy, h3⟩ := hr
    have := h.ref t y hy h3
    exact .inr (by omega)
  · have hc : cntT L = L.length := by
      unfold cntT
      rw [List.countP_eq_length]
      intro x hx
      obtain ⟨t, ht⟩ := List.getElem?_of_mem hx
      have h5 : x.1 = 5 := by
        rcases hall t x ht with e | e
        · exact absurd ⟨t, x, ht, e⟩ hr
        · exact e
      rw [tsOf_of (.inr (.inr h5))]; rfl
    have := h.num.sum
    have := h.len
    exact .inl (by omega)

end Go.Proofs.Ytmnfdecakjobjaa
