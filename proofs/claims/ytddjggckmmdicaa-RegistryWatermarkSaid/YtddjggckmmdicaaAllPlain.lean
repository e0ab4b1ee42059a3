/-
  Plain facts of machines that share one counter (each looks at it, then tries to change it): that so many picks in turn suffice until all have finished. No program is spoken of. Condition: one to six machines.
-/
namespace Go.Proofs.Ytddjggckmmdicaa
set_option linter.unusedVariables false

/-- A machine: 0 will look, 1 has looked, 2 has changed the counter, 3 has finished without a change; the value that it saw. -/
abbrev Mac := Nat × Nat
def unf (L : List Mac) : Nat := L.countP fun x => decide (x.1 < 2)
def cnt (s : Nat) (L : List Mac) : Nat := L.countP fun x => x.1 == s

theorem cnt_set (s : Nat) (y' : Mac) : ∀ (L : List Mac) (t : Nat) (y : Mac), L[t]? = some y → cnt s (L.set t y') + (if y.1 = s then 1 else 0) = cnt s L + (if y'.1 = s then 1 else 0)
  | [], t, y, h => by simp at h
  | x :: r, 0, y, h => by
    simp at h; subst h
    simp only [cnt, List.set_cons_zero, List.countP_cons, beq_iff_eq]
    omega
  | x :: r, t + 1, y, h => by
    have := cnt_set s y' r t y (by simpa using h)
    simp only [cnt, List.set_cons_succ, List.countP_cons, beq_iff_eq] at this ⊢
    omega
theorem unf_set (y' : Mac) : ∀ (L : List Mac) (t : Nat) (y : Mac), L[t]? = some y → unf (L.set t y') + (if y.1 < 2 then 1 else 0) = unf L + (if y'.1 < 2 then 1 else 0)
  | [], t, y, h => by simp at h
  | x :: r, 0, y, h => by
    simp at h; subst h
    simp only [unf, List.set_cons_zero, List.countP_cons, decide_eq_true_eq]
    omega
  | x :: r, t + 1, y, h => by
    have := unf_set y' r t y (by simpa using h)
    simp only [unf, List.set_cons_succ, List.countP_cons, decide_eq_true_eq] at this ⊢
    omega
theorem unf_pos : ∀ (L : List Mac) (t : Nat) (y : Mac), L[t]? = some y → y.1 < 2 → 1 ≤ unf L
  | [], t, y, h, _ => by simp at h
  | x :: r, 0, y, h, e => by
    simp at h; subst h
    simp [unf, e]
  | x :: r, t + 1, y, h, e => by
    have := unf_pos r t y (by simpa using h) e
    simp only [unf, List.countP_cons] at this ⊢
    omega
theorem unf_ex : ∀ (L : List Mac), 1 ≤ unf L → ∃ (t : Nat) (y : Mac), L[t]? = some y ∧ y.1 < 2
  | [], h => by simp [unf] at h
  | x :: r, h => by
    by_cases e : x.1 < 2
    · exact ⟨0, x, rfl, e⟩
    · have : 1 ≤ unf r := by simpa [unf, List.countP_cons, e] using h
      obtain ⟨t, y, h1, h2⟩ := unf_ex r this
      exact ⟨t + 1, y, by simpa using h1, h2⟩
theorem unf_le (L : List Mac) : unf L ≤ L.length := List.countP_le_length
theorem cnt_le (s : Nat) (L : List Mac) : cnt s L ≤ L.length := List.countP_le_length
theorem set_other {L : List Mac} {t : Nat} {y' : Mac} : ∀ (j : Nat) (y : Mac), j ≠ t → L[j]? = some y → (L.set t y')[j]? = some y := fun j y hj h => by
  rw [List.getElem?_set_ne (fun e => hj e.symm)]; exact h
theorem set_self {L : List Mac} {t : Nat} {y y' : Mac} (h : L[t]? = some y) : (L.set t y')[t]? = some y' := by
  rw [List.getElem?_set_self (List.getElem?_eq_some_iff.1 h).1]
/-- What holds of machine t's new state and of all the others' holds of all. -/
theorem set_all {L : List Mac} {t : Nat} {y' : Mac} {p : Nat → Mac → Prop} (hs : p t y') (ho : ∀ (j : Nat) (x : Mac), j ≠ t → L[j]? = some x → p j x) : ∀ (j : Nat) (x : Mac), (L.set t y')[j]? = some x → p j x := fun j x hx => by
  by_cases hj : j = t
  · subst hj
    rw [List.getElem?_set] at hx
    split at hx
    · split at hx
      · rw [← Option.some.inj hx]; exact hs
      · cases hx
    · rename_i h; exact absurd rfl h
  · rw [List.getElem?_set_ne (fun e => hj e.symm)] at hx; exact ho j x hj hx

/-- How many picks come ahead of machine t's next one, when machine k % n is picked now. -/
def ahead (n k t : Nat) : Nat := (t + n - k % n) % n
/-- How many picks of its own a machine needs, while nobody else changes the counter. -/
def need (v : Nat) (y : Mac) : Nat := if y.1 = 0 then 2 else if y.2 = v then 1 else 3
/-- So many picks in turn suffice. -/
def Good (n : Nat) (L : List Mac) (v k x : Nat) : Prop :=
  unf L = 0 ∨ ∃ (t : Nat) (y : Mac), L[t]? = some y ∧ y.1 < 2 ∧ 3 * (n * (unf L - 1)) + ahead n k t + 1 + n * (need v y - 1) ≤ x

theorem need_le (v : Nat) (y : Mac) : 1 ≤ need v y ∧ need v y ≤ 3 := by unfold need; split <;> (try split) <;> omega
theorem n_cases {n : Nat} (h1 : 1 ≤ n) (h6 : n ≤ 6) : n = 1 ∨ n = 2 ∨ n = 3 ∨ n = 4 ∨ n = 5 ∨ n = 6 := by omega
theorem ahead_lt {n k t : Nat} (h1 : 1 ≤ n) : ahead n k t < n := Nat.mod_lt _ (by omega)
theorem ahead_next {n k t : Nat} (h1 : 1 ≤ n) (h6 : n ≤ 6) (ht : t < n) (hne : t ≠ k % n) : ahead n (k + 1) t + 1 = ahead n k t := by
  unfold ahead
  rcases n_cases h1 h6 with rfl | rfl | rfl | rfl | rfl | rfl <;> omega
theorem ahead_here {n k : Nat} (h1 : 1 ≤ n) (h6 : n ≤ 6) : ahead n k (k % n) = 0 := by
  unfold ahead
  rcases n_cases h1 h6 with rfl | rfl | rfl | rfl | rfl | rfl <;> omega
theorem mul_le' {n a b : Nat} (h : a ≤ b) : n * a ≤ n * b := Nat.mul_le_mul_left n h
theorem mul_pred {n a : Nat} (h : 1 ≤ a) : n * (a - 1) + n = n * a := by
  obtain ⟨b, rfl⟩ : ∃ b, a = b + 1 := ⟨a - 1, by omega⟩
  rw [Nat.add_sub_cancel, Nat.mul_succ]

/-- From any state. -/
theorem Good.any {n : Nat} {L : List Mac} (hl : L.length = n) (h1 : 1 ≤ n) (v k : Nat) : Good n L v k (3 * (n * n)) := by
  by_cases h : 1 ≤ unf L
  · obtain ⟨t, y, hy, e⟩ := unf_ex L h
    refine .inr ⟨t, y, hy, e, ?_⟩
    have := ahead_lt (k := k) (t := t) h1
    have hu := unf_le L
    have := mul_le' (n := n) (show unf L - 1 ≤ n - 1 by omega)
    have := mul_pred (n := n) (a := n) h1
    have := mul_le' (n := n) (show need v y - 1 ≤ 2 by have := (need_le v y).2; omega)
    omega
  · exact .inl (by omega)
theorem Good.zero {n : Nat} {L : List Mac} {v k : Nat} (h : Good n L v k 0) : unf L = 0 := by
  rcases h with h | ⟨t, y, _, _, h⟩
  · exact h
  · omega

section
variable {n : Nat} {L : List Mac} {v v' k x : Nat} {y y' : Mac}
/-- A pick that ends nothing and brings the picked machine one pick nearer. -/
theorem Good.near (g : Good n L v k x) (hl : L.length = n) (h1 : 1 ≤ n) (h6 : n ≤ 6) (hy : L[k % n]? = some y) (e : y.1 < 2) (e' : y'.1 < 2) (hn : need v y' + 1 ≤ need v y) : Good n (L.set (k % n) y') v (k + 1) (x - 1) := by
  have hu := unf_set y' L _ y hy
  rw [if_pos e, if_pos e'] at hu
  have hu : unf (L.set (k % n) y') = unf L := by omega
  rcases g with h | ⟨t, z, hz, ez, hx⟩
  · exact .inl (by omega)
  · have htn : t < n := by rw [← hl]; exact (List.getElem?_eq_some_iff.1 hz).1
    by_cases ht : t = k % n
    · subst ht
      rw [hy] at hz; obtain rfl := Option.some.inj hz
      have := ahead_here (k := k) h1 h6
      have := ahead_lt (k := k + 1) (t := k % n) h1
      have h2 := mul_pred (n := n) (a := need v y - 1) (by have := (need_le v y').1; omega)
      have h3 := mul_le' (n := n) (show need v y' - 1 ≤ need v y - 1 - 1 by omega)
      exact .inr ⟨_, y', set_self hy, e', by rw [hu]; omega⟩
    · have := ahead_next (k := k) h1 h6 htn ht
      exact .inr ⟨t, z, set_other t z ht hz, ez, by rw [hu]; omega⟩
/-- A pick that ends a machine. -/
theorem Good.fin (g : Good n L v k x) (h1 : 1 ≤ n) (hy : L[k % n]? = some y) (e : y.1 < 2) (e' : 2 ≤ y'.1) : Good n (L.set (k % n) y') v' (k + 1) (x - 1) := by
  have hu := unf_set y' L _ y hy
  rw [if_pos e, if_neg (by omega)] at hu
  have hp := unf_pos L _ y hy e
  rcases g with h | ⟨t, z, hz, ez, hx⟩
  · omega
  · by_cases h : 1 ≤ unf (L.set (k % n) y')
    · obtain ⟨j, z', hj, ej⟩ := unf_ex _ h
      refine .inr ⟨j, z', hj, ej, ?_⟩
      have := ahead_lt (k := k + 1) (t := j) h1
      have h3 := mul_pred (n := n) (a := unf (L.set (k % n) y')) h
      have h4 := mul_le' (n := n) (show need v' z' - 1 ≤ 2 by have := (need_le v' z').2; omega)
      rw [show unf L - 1 = unf (L.set (k % n) y') by omega] at hx
      omega
    · exact .inl (by omega)
/-- A pick of a machine that has finished. -/
theorem Good.idle (g : Good n L v k x) (hl : L.length = n) (h1 : 1 ≤ n) (h6 : n ≤ 6) (hy : L[k % n]? = some y) (e : 2 ≤ y.1) : Good n L v (k + 1) (x - 1) := by
  rcases g with h | ⟨t, z, hz, ez, hx⟩
  · exact .inl h
  · have htn : t < n := by rw [← hl]; exact (List.getElem?_eq_some_iff.1 hz).1
    have ht : t ≠ k % n := fun ht => by rw [ht, hy] at hz; obtain rfl := Option.some.inj hz; omega
    have := ahead_next (k := k) h1 h6 htn ht
    exact .inr ⟨t, z, hz, ez, by omega⟩
end

/-- What a pick makes of a machine with this limit and this goal: its state and the counter. -/
def moved (lim goal : Nat) (y : Mac) (v : Nat) : Mac :=
  if y.1 = 0 then (if lim ≤ v then (3, v) else (1, v)) else if y.1 = 1 then (if y.2 = v then (2, y.2) else (0, y.2)) else y
def counts (goal : Nat) (y : Mac) (v : Nat) : Nat := if y.1 = 1 ∧ y.2 = v then goal else v
theorem moved_small {lim goal : Nat} {y : Mac} {v : Nat} (h : y.1 ≤ 3) : (moved lim goal y v).1 ≤ 3 := by unfold moved; split <;> (try split) <;> (try split) <;> simp_all

/-- Picks of machine t, scheduled or in turn. -/
theorem good_step {n P k t v lim goal : Nat} {L : List Mac} {y : Mac} (g : Good n L v k (3 * (n * n) - (k - P))) (hl : L.length = n) (h1 : 1 ≤ n) (h6 : n ≤ 6) (hy : L[t]? = some y) (hs : y.1 ≤ 3) (h : k < P ∨ t = k % n) :
    Good n (L.set t (moved lim goal y v)) (counts goal y v) (k + 1) (3 * (n * n) - (k + 1 - P)) := by
  by_cases hk : k < P
  · have := Good.any (L := L.set t (moved lim goal y v)) (by rw [List.length_set]; exact hl) h1 (counts goal y v) (k + 1)
    rwa [show 3 * (n * n) - (k + 1 - P) = 3 * (n * n) by omega]
  · obtain rfl : t = k % n := by omega
    rw [show 3 * (n * n) - (k + 1 - P) = 3 * (n * n) - (k - P) - 1 by omega]
    obtain ⟨s, N⟩ := y
    simp only at hs
    rcases (by omega : s = 0 ∨ s = 1 ∨ 2 ≤ s) with rfl | rfl | hs2
    · have hc : counts goal (0, N) v = v := by simp [counts]
      rw [hc]
      by_cases hv : lim ≤ v
      · have hm : moved lim goal (0, N) v = (3, v) := by simp [moved, hv]
        rw [hm]
        exact g.fin h1 hy (by simp) (by simp)
      · have hm : moved lim goal (0, N) v = (1, v) := by simp [moved, hv]
        rw [hm]
        exact g.near hl h1 h6 hy (by simp) (by simp) (by simp [need])
    · by_cases hv : N = v
      · have hm : moved lim goal (1, N) v = (2, N) := by simp [moved, hv]
        rw [hm]
        exact g.fin h1 hy (by simp) (by simp)
      · have hm : moved lim goal (1, N) v = (0, N) := by simp [moved, hv]
        have hc : counts goal (1, N) v = v := by simp [counts, hv]
        rw [hm, hc]
        exact g.near hl h1 h6 hy (by simp) (by simp) (by simp [need, hv])
    · have hm : moved lim goal (s, N) v = (s, N) := by unfold moved; rw [if_neg (by simp only; omega), if_neg (by simp only; omega)]
      have hc : counts goal (s, N) v = v := by unfold counts; rw [if_neg (by simp only; omega)]
      have hset : L.set (k % n) (s, N) = L := by
        apply List.ext_getElem?
        intro j
        by_cases hj : j = k % n
        · subst hj; rw [set_self hy, hy]
        · rw [List.getElem?_set_ne (fun e => hj e.symm)]
      rw [hm, hc, hset]
      exact g.idle hl h1 h6 hy hs2

end Go.Proofs.Ytddjggckmmdicaa
