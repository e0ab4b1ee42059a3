/-
  Plain facts of writers that share one latch: what holds of their states and of the latch's word after any picks; that so many picks in turn suffice. No program is spoken of. Condition: two to five writers.
-/
import Derived.Test.YtehanjekioomoaaLatWords
namespace Go.Proofs.Ytehanjekioomoaa
set_option linter.unusedVariables false

/-- A writer: 0 wants the latch, 1 has it, 2 has released it; whether its last look found the latch free; the word that it saw. -/
abbrev Wri := Nat × Bool × Nat
def cnt (s : Nat) (L : List Wri) : Nat := L.countP fun x => x.1 == s

theorem cnt_set (s : Nat) (y' : Wri) : ∀ (L : List Wri) (t : Nat) (y : Wri), L[t]? = some y → cnt s (L.set t y') + (if y.1 = s then 1 else 0) = cnt s L + (if y'.1 = s then 1 else 0)
  | [], t, y, h => by simp at h
  | x :: r, 0, y, h => by
    simp at h; subst h
    simp only [cnt, List.set_cons_zero, List.countP_cons, beq_iff_eq]
    omega
  | x :: r, t + 1, y, h => by
    have := cnt_set s y' r t y (by simpa using h)
    simp only [cnt, List.set_cons_succ, List.countP_cons, beq_iff_eq] at this ⊢
    omega
theorem cnt_pos (s : Nat) : ∀ (L : List Wri) (t : Nat) (y : Wri), L[t]? = some y → y.1 = s → 1 ≤ cnt s L
  | [], t, y, h, _ => by simp at h
  | x :: r, 0, y, h, e => by
    simp at h; subst h
    simp [cnt, e]
  | x :: r, t + 1, y, h, e => by
    have := cnt_pos s r t y (by simpa using h) e
    simp only [cnt, List.countP_cons] at this ⊢
    omega
theorem cnt_ex (s : Nat) : ∀ (L : List Wri), 1 ≤ cnt s L → ∃ (t : Nat) (y : Wri), L[t]? = some y ∧ y.1 = s
  | [], h => by simp [cnt] at h
  | x :: r, h => by
    by_cases e : x.1 = s
    · exact ⟨0, x, rfl, e⟩
    · have : 1 ≤ cnt s r := by simpa [cnt, List.countP_cons, e] using h
      obtain ⟨t, y, h1, h2⟩ := cnt_ex s r this
      exact ⟨t + 1, y, by simpa using h1, h2⟩
theorem cnt_sum : ∀ (L : List Wri), (∀ x ∈ L, x.1 ≤ 2) → cnt 0 L + cnt 1 L + cnt 2 L = L.length
  | [], _ => rfl
  | x :: r, h => by
    have := cnt_sum r fun y hy => h y (List.mem_cons_of_mem _ hy)
    have h0 := h x List.mem_cons_self
    simp only [cnt, List.countP_cons, List.length_cons, beq_iff_eq] at this ⊢
    rcases (by omega : x.1 = 0 ∨ x.1 = 1 ∨ x.1 = 2) with e | e | e <;> simp [e] <;> omega

structure Lat (n : Nat) (L : List Wri) (v : Nat) : Prop where
  n2 : 2 ≤ n
  n5 : n ≤ 5
  len : L.length = n
  st : ∀ x ∈ L, x.1 ≤ 2
  one : cnt 1 L ≤ 1
  word : v = 4 * cnt 2 L + cnt 1 L
  has : ∀ x ∈ L, x.1 = 1 → x.2.2 = 4 * cnt 2 L
  free : ∀ x ∈ L, x.1 = 0 → x.2.1 = true → x.2.2 % 2 = 0
  small : ∀ x ∈ L, x.2.2 ≤ 21

theorem Lat.sum {n : Nat} {L : List Wri} {v : Nat} (h : Lat n L v) : cnt 0 L + cnt 1 L + cnt 2 L = n := by rw [cnt_sum L h.st, h.len]
theorem Lat.le {n : Nat} {L : List Wri} {v : Nat} (h : Lat n L v) : v ≤ 21 := by have := h.sum; have := h.word; have := h.one; have := h.n5; omega
theorem Lat.lt {n : Nat} {L : List Wri} {v t : Nat} {y : Wri} (h : Lat n L v) (hy : L[t]? = some y) : t < n := by rw [← h.len]; exact (List.getElem?_eq_some_iff.1 hy).1
theorem mem_set' {L : List Wri} {t : Nat} {y x : Wri} (h : x ∈ L.set t y) : x ∈ L ∨ x = y := List.mem_or_eq_of_mem_set h

/-- A look at the latch. -/
theorem Lat.load {n : Nat} {L : List Wri} {v t : Nat} {f : Bool} {N : Nat} (h : Lat n L v) (hy : L[t]? = some (0, f, N)) : Lat n (L.set t (0, v % 2 == 0, v)) v := by
  have c1 := cnt_set 1 (0, v % 2 == 0, v) L t _ hy
  have c2 := cnt_set 2 (0, v % 2 == 0, v) L t _ hy
  simp only [show ¬ (0 = 1) by omega, show ¬ (0 = 2) by omega, if_false] at c1 c2
  have e1 : cnt 1 (L.set t (0, v % 2 == 0, v)) = cnt 1 L := by omega
  have e2 : cnt 2 (L.set t (0, v % 2 == 0, v)) = cnt 2 L := by omega
  refine ⟨h.n2, h.n5, by rw [List.length_set]; exact h.len, fun x hx => ?_, by rw [e1]; exact h.one, by rw [e1, e2]; exact h.word, fun x hx => ?_, fun x hx => ?_, fun x hx => ?_⟩
  · rcases mem_set' hx with hx | rfl
    · exact h.st x hx
    · simp
  · rw [e2]
    rcases mem_set' hx with hx | rfl
    · exact h.has x hx
    · simp
  · rcases mem_set' hx with hx | rfl
    · exact h.free x hx
    · simp
  · rcases mem_set' hx with hx | rfl
    · exact h.small x hx
    · exact h.le
/-- A swap that fails. -/
theorem Lat.miss {n : Nat} {L : List Wri} {v t : Nat} {f : Bool} {N : Nat} (h : Lat n L v) (hy : L[t]? = some (0, f, N)) : Lat n (L.set t (0, false, N)) v := by
  have c1 := cnt_set 1 (0, false, N) L t _ hy
  have c2 := cnt_set 2 (0, false, N) L t _ hy
  simp only [show ¬ (0 = 1) by omega, show ¬ (0 = 2) by omega, if_false] at c1 c2
  have e1 : cnt 1 (L.set t (0, false, N)) = cnt 1 L := by omega
  have e2 : cnt 2 (L.set t (0, false, N)) = cnt 2 L := by omega
  have hN := h.small _ (List.mem_of_getElem? hy)
  refine ⟨h.n2, h.n5, by rw [List.length_set]; exact h.len, fun x hx => ?_, by rw [e1]; exact h.one, by rw [e1, e2]; exact h.word, fun x hx => ?_, fun x hx => ?_, fun x hx => ?_⟩
  · rcases mem_set' hx with hx | rfl
    · exact h.st x hx
    · simp
  · rw [e2]
    rcases mem_set' hx with hx | rfl
    · exact h.has x hx
    · simp
  · rcases mem_set' hx with hx | rfl
    · exact h.free x hx
    · simp
  · rcases mem_set' hx with hx | rfl
    · exact h.small x hx
    · exact hN
/-- When a writer's free word is the latch's, nobody has it. -/
theorem Lat.none {n : Nat} {L : List Wri} {v t : Nat} (h : Lat n L v) (hy : L[t]? = some (0, true, v)) : cnt 1 L = 0 := by
  have := h.free _ (List.mem_of_getElem? hy) rfl rfl
  have := h.word
  have := h.one
  simp only at *
  omega
/-- A swap that succeeds. -/
theorem Lat.take {n : Nat} {L : List Wri} {v t : Nat} (h : Lat n L v) (hy : L[t]? = some (0, true, v)) : Lat n (L.set t (1, false, v)) (lockW v) := by
  have c1 := cnt_set 1 (1, false, v) L t _ hy
  have c2 := cnt_set 2 (1, false, v) L t _ hy
  simp only [show ¬ (0 = 1) by omega, show ¬ (0 = 2) by omega, show ¬ (1 = 2) by omega, if_false, if_true] at c1 c2
  have h0 := h.none hy
  have hw := h.word
  have e1 : cnt 1 (L.set t (1, false, v)) = 1 := by omega
  have e2 : cnt 2 (L.set t (1, false, v)) = cnt 2 L := by omega
  refine ⟨h.n2, h.n5, by rw [List.length_set]; exact h.len, fun x hx => ?_, by rw [e1]; omega, by rw [e1, e2]; unfold lockW; omega, fun x hx => ?_, fun x hx => ?_, fun x hx => ?_⟩
  · rcases mem_set' hx with hx | rfl
    · exact h.st x hx
    · simp
  · rw [e2]
    rcases mem_set' hx with hx | rfl
    · exact h.has x hx
    · intro _; simp only; omega
  · rcases mem_set' hx with hx | rfl
    · exact h.free x hx
    · simp
  · rcases mem_set' hx with hx | rfl
    · exact h.small x hx
    · exact h.le
def freed (N : Nat) : Nat := unlockW (endW (beginW (lockW N)))
/-- Who has the latch releases it. -/
theorem Lat.drop {n : Nat} {L : List Wri} {v t : Nat} {f : Bool} {N : Nat} (h : Lat n L v) (hy : L[t]? = some (1, f, N)) : Lat n (L.set t (2, f, N)) (freed N) := by
  have c1 := cnt_set 1 (2, f, N) L t _ hy
  have c2 := cnt_set 2 (2, f, N) L t _ hy
  simp only [show ¬ (1 = 2) by omega, show ¬ (2 = 1) by omega, if_false, if_true] at c1 c2
  have hp := cnt_pos 1 L t _ hy rfl
  have ho := h.one
  have hw := h.word
  have hN := h.has _ (List.mem_of_getElem? hy) rfl
  have hs := h.small _ (List.mem_of_getElem? hy)
  simp only at hN hs
  have e1 : cnt 1 (L.set t (2, f, N)) = 0 := by omega
  have e2 : cnt 2 (L.set t (2, f, N)) = cnt 2 L + 1 := by omega
  refine ⟨h.n2, h.n5, by rw [List.length_set]; exact h.len, fun x hx => ?_, by rw [e1]; omega, by rw [e1, e2]; unfold freed unlockW endW beginW lockW; omega, fun x hx e => ?_, fun x hx => ?_, fun x hx => ?_⟩
  · rcases mem_set' hx with hx | rfl
    · exact h.st x hx
    · simp
  · obtain ⟨j, hj⟩ := List.mem_iff_getElem?.1 hx
    have := cnt_pos 1 _ j _ hj e
    omega
  · rcases mem_set' hx with hx | rfl
    · exact h.free x hx
    · simp
  · rcases mem_set' hx with hx | rfl
    · exact h.small x hx
    · exact hs

/-- How many picks come ahead of writer t's next one, when writer k % n is picked now. -/
def ahead (n k t : Nat) : Nat := (t + n - k % n) % n
/-- How many picks of its own a waiting writer needs, while nobody has the latch. -/
def need (v : Nat) (y : Wri) : Nat := if y.2.1 = true then (if y.2.2 = v then 1 else 3) else 2
/-- So many picks in turn suffice. -/
def Good (n : Nat) (L : List Wri) (v k x : Nat) : Prop :=
  (∃ (t : Nat) (y : Wri), L[t]? = some y ∧ y.1 = 1 ∧ 4 * (n * cnt 0 L) + ahead n k t + 1 ≤ x) ∨
  (cnt 1 L = 0 ∧ ∃ (t : Nat) (y : Wri), L[t]? = some y ∧ y.1 = 0 ∧ 4 * (n * (cnt 0 L - 1)) + n + ahead n k t + 1 + n * (need v y - 1) ≤ x) ∨
  (cnt 0 L = 0 ∧ cnt 1 L = 0)

theorem need_le (v : Nat) (y : Wri) : 1 ≤ need v y ∧ need v y ≤ 3 := by unfold need; split <;> (try split) <;> omega
theorem n_cases {n : Nat} (h2 : 2 ≤ n) (h5 : n ≤ 5) : n = 2 ∨ n = 3 ∨ n = 4 ∨ n = 5 := by omega
theorem ahead_lt {n k t : Nat} (h2 : 2 ≤ n) : ahead n k t < n := Nat.mod_lt _ (by omega)
theorem ahead_next {n k t : Nat} (h2 : 2 ≤ n) (h5 : n ≤ 5) (ht : t < n) (hne : t ≠ k % n) : ahead n (k + 1) t + 1 = ahead n k t := by
  unfold ahead
  rcases n_cases h2 h5 with rfl | rfl | rfl | rfl <;> omega
theorem ahead_here {n k : Nat} (h2 : 2 ≤ n) (h5 : n ≤ 5) : ahead n k (k % n) = 0 := by
  unfold ahead
  rcases n_cases h2 h5 with rfl | rfl | rfl | rfl <;> omega
theorem mul_le' {n a b : Nat} (h : a ≤ b) : n * a ≤ n * b := Nat.mul_le_mul_left n h
theorem mul_pred {n a : Nat} (h : 1 ≤ a) : n * (a - 1) + n = n * a := by
  obtain ⟨b, rfl⟩ : ∃ b, a = b + 1 := ⟨a - 1, by omega⟩
  rw [Nat.add_sub_cancel, Nat.mul_succ]

/-- From any state. -/
theorem Good.any {n : Nat} {L : List Wri} {v : Nat} (h : Lat n L v) (k : Nat) : Good n L v k (4 * (n * n)) := by
  have hs := h.sum
  have hn := h.n2
  by_cases h1 : 1 ≤ cnt 1 L
  · obtain ⟨t, y, hy, e⟩ := cnt_ex 1 L h1
    refine .inl ⟨t, y, hy, e, ?_⟩
    have := ahead_lt (k := k) (t := t) hn
    have := mul_le' (n := n) (show cnt 0 L ≤ n - 1 by omega)
    have := mul_pred (n := n) (a := n) (by omega)
    omega
  · by_cases h0 : 1 ≤ cnt 0 L
    · obtain ⟨t, y, hy, e⟩ := cnt_ex 0 L h0
      refine .inr (.inl ⟨by omega, t, y, hy, e, ?_⟩)
      have := ahead_lt (k := k) (t := t) hn
      have := mul_le' (n := n) (show cnt 0 L - 1 ≤ n - 1 by omega)
      have := mul_pred (n := n) (a := n) (by omega)
      have := mul_le' (n := n) (show need v y - 1 ≤ 2 by have := (need_le v y).2; omega)
      omega
    · exact .inr (.inr ⟨by omega, by omega⟩)
theorem Good.zero {n : Nat} {L : List Wri} {v k : Nat} (h : Good n L v k 0) : cnt 0 L = 0 ∧ cnt 1 L = 0 := by
  rcases h with ⟨t, y, _, _, h⟩ | ⟨_, t, y, _, _, h⟩ | h
  · omega
  · omega
  · exact h

/-- A pick that leaves the counts and the word as they are, and brings writer k % n, if it waits while nobody has the latch, one pick nearer. -/
theorem Good.same {n : Nat} {L L' : List Wri} {v k x : Nat} (h : Lat n L v) (g : Good n L v k x) (e0 : cnt 0 L' = cnt 0 L) (e1 : cnt 1 L' = cnt 1 L)
    (hother : ∀ t y, t ≠ k % n → L[t]? = some y → L'[t]? = some y)
    (hself : ∀ y, L[k % n]? = some y → y.1 = 1 → False)
    (hnear : ∀ y, L[k % n]? = some y → y.1 = 0 → cnt 1 L = 0 → ∃ y', L'[k % n]? = some y' ∧ y'.1 = 0 ∧ need v y' + 1 ≤ need v y) : Good n L' v (k + 1) (x - 1) := by
  rcases g with ⟨t, y, hy, e, hx⟩ | ⟨h1, t, y, hy, e, hx⟩ | ⟨h0, h1⟩
  · have htn : t ≠ k % n := fun ht => hself y (ht ▸ hy) e
    have := ahead_next (k := k) h.n2 h.n5 (h.lt hy) htn
    exact .inl ⟨t, y, hother t y htn hy, e, by rw [e0]; omega⟩
  · by_cases htn : t = k % n
    · subst htn
      obtain ⟨y', hy', e', hn⟩ := hnear y hy e h1
      have := ahead_here (k := k) h.n2 h.n5
      have := ahead_lt (k := k + 1) (t := k % n) h.n2
      have h2 := mul_pred (n := n) (a := need v y - 1) (by have := (need_le v y').1; omega)
      have h3 := mul_le' (n := n) (show need v y' - 1 ≤ need v y - 1 - 1 by omega)
      exact .inr (.inl ⟨by omega, _, y', hy', e', by rw [e0]; omega⟩)
    · have := ahead_next (k := k) h.n2 h.n5 (h.lt hy) htn
      exact .inr (.inl ⟨by omega, t, y, hother t y htn hy, e, by rw [e0]; omega⟩)
  · exact .inr (.inr ⟨by omega, by omega⟩)

theorem set_other {L : List Wri} {t : Nat} {y' : Wri} : ∀ (j : Nat) (y : Wri), j ≠ t → L[j]? = some y → (L.set t y')[j]? = some y := fun j y hj h => by
  rw [List.getElem?_set_ne (fun e => hj e.symm)]; exact h
theorem set_self {L : List Wri} {t : Nat} {y y' : Wri} (h : L[t]? = some y) : (L.set t y')[t]? = some y' := by
  rw [List.getElem?_set_self (List.getElem?_eq_some_iff.1 h).1]

theorem Good.load {n : Nat} {L : List Wri} {v k x : Nat} {N : Nat} (h : Lat n L v) (g : Good n L v k x) (hy : L[k % n]? = some (0, false, N)) : Good n (L.set (k % n) (0, v % 2 == 0, v)) v (k + 1) (x - 1) := by
  have c0 := cnt_set 0 (0, v % 2 == 0, v) L _ _ hy
  have c1 := cnt_set 1 (0, v % 2 == 0, v) L _ _ hy
  simp only [show ¬ (0 = 1) by omega, if_false, if_true] at c0 c1
  refine g.same h (by omega) (by omega) set_other (fun y h1 e => ?_) (fun y h1 e hz => ⟨_, set_self hy, rfl, ?_⟩)
  · rw [hy] at h1; obtain rfl := Option.some.inj h1; simp at e
  · rw [hy] at h1; obtain rfl := Option.some.inj h1
    have hv : v % 2 = 0 := by have := h.word; omega
    simp [need, hv]
theorem Good.miss {n : Nat} {L : List Wri} {v k x : Nat} {N : Nat} (h : Lat n L v) (g : Good n L v k x) (hy : L[k % n]? = some (0, true, N)) (hN : N ≠ v) : Good n (L.set (k % n) (0, false, N)) v (k + 1) (x - 1) := by
  have c0 := cnt_set 0 (0, false, N) L _ _ hy
  have c1 := cnt_set 1 (0, false, N) L _ _ hy
  simp only [show ¬ (0 = 1) by omega, if_false, if_true] at c0 c1
  refine g.same h (by omega) (by omega) set_other (fun y h1 e => ?_) (fun y h1 e hz => ⟨_, set_self hy, rfl, ?_⟩)
  · rw [hy] at h1; obtain rfl := Option.some.inj h1; simp at e
  · rw [hy] at h1; obtain rfl := Option.some.inj h1
    simp [need, hN]
theorem Good.idle {n : Nat} {L : List Wri} {v k x : Nat} {f : Bool} {N : Nat} (h : Lat n L v) (g : Good n L v k x) (hy : L[k % n]? = some (2, f, N)) : Good n L v (k + 1) (x - 1) := by
  refine g.same h rfl rfl (fun _ _ _ h => h) (fun y h1 e => ?_) (fun y h1 e hz => ?_)
  · rw [hy] at h1; obtain rfl := Option.some.inj h1; simp at e
  · rw [hy] at h1; obtain rfl := Option.some.inj h1; simp at e
theorem Good.take {n : Nat} {L : List Wri} {v k x : Nat} (h : Lat n L v) (g : Good n L v k x) (hy : L[k % n]? = some (0, true, v)) : Good n (L.set (k % n) (1, false, v)) (lockW v) (k + 1) (x - 1) := by
  have c0 := cnt_set 0 (1, false, v) L _ _ hy
  simp only [show ¬ (1 = 0) by omega, if_false, if_true] at c0
  have hz := h.none hy
  have hp := cnt_pos 0 L _ _ hy rfl
  have := ahead_lt (k := k + 1) (t := k % n) h.n2
  refine .inl ⟨k % n, _, set_self hy, rfl, ?_⟩
  rw [show cnt 0 (L.set (k % n) (1, false, v)) = cnt 0 L - 1 by omega]
  rcases g with ⟨t, y, h1, e, hx⟩ | ⟨h1, t, y, h2, e, hx⟩ | ⟨h0, h1⟩
  · have := cnt_pos 1 L t y h1 e; omega
  · omega
  · omega
theorem Good.drop {n : Nat} {L : List Wri} {v k x : Nat} {f : Bool} {N : Nat} (h : Lat n L v) (g : Good n L v k x) (hy : L[k % n]? = some (1, f, N)) : Good n (L.set (k % n) (2, f, N)) (freed N) (k + 1) (x - 1) := by
  have c0 := cnt_set 0 (2, f, N) L _ _ hy
  have c1 := cnt_set 1 (2, f, N) L _ _ hy
  simp only [show ¬ (1 = 0) by omega, show ¬ (2 = 0) by omega, show ¬ (2 = 1) by omega, if_false, if_true] at c0 c1
  have hp := cnt_pos 1 L _ _ hy rfl
  have ho := h.one
  rcases g with ⟨t, y, h1, e, hx⟩ | ⟨h1, t, y, h2, e, hx⟩ | ⟨h0, h1⟩
  · by_cases hw : 1 ≤ cnt 0 L
    · obtain ⟨j, y', hj, ej⟩ := cnt_ex 0 (L.set (k % n) (2, f, N)) (by omega)
      refine .inr (.inl ⟨by omega, j, y', hj, ej, ?_⟩)
      have := ahead_lt (k := k + 1) (t := j) h.n2
      have h3 := mul_pred (n := n) (a := cnt 0 L) hw
      have h4 := mul_le' (n := n) (show need (freed N) y' - 1 ≤ 2 by have := (need_le (freed N) y').2; omega)
      rw [show cnt 0 (L.set (k % n) (2, f, N)) = cnt 0 L by omega]
      omega
    · exact .inr (.inr ⟨by omega, by omega⟩)
  · omega
  · omega

end Go.Proofs.Ytehanjekioomoaa
