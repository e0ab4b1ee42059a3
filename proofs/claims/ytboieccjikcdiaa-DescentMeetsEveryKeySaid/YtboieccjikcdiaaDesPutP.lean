/-
  Plain facts about the reference's list of entries: what a loop over it builds, and that it stays strictly ascending. No program is spoken of. Condition: none.
-/
import Derived.Test.YtboieccjikcdiaaKeysPlain
import GoSem.Core.Next
namespace Go.Proofs.Ytboieccjikcdiaa.PlainE
open Go Plain

abbrev Ent := ByteArray × ByteArray
/-- The entries' cells, one behind the other. -/
def flat : List Ent → List Value
  | [] => []
  | x :: r => .string x.1 :: .string x.2 :: flat r

theorem flat_length : ∀ xs : List Ent, (flat xs).length = xs.length * 2
  | [] => rfl
  | x :: r => by simp [flat, flat_length r]; omega
theorem flat_append : ∀ xs ys : List Ent, flat (xs ++ ys) = flat xs ++ flat ys
  | [], _ => rfl
  | x :: r, ys => by simp [flat, flat_append r ys]
theorem flat_at : ∀ (xs : List Ent) (k : Nat) (h : k < xs.length), (flat xs)[k * 2]? = some (.string (xs[k]).1) ∧ (flat xs)[k * 2 + 1]? = some (.string (xs[k]).2)
  | [], k, h => by simp at h
  | x :: r, 0, _ => by simp [flat]
  | x :: r, k + 1, h => by
    have := flat_at r k (by simpa using h)
    have e : (k + 1) * 2 = k * 2 + 1 + 1 := by omega
    rw [e]
    simp only [flat, List.getElem?_cons_succ, List.getElem_cons_succ]
    exact this

/-- Is the entry's key not below the other's? -/
def geE (x e : Ent) : Bool := !ltB x.1.toList e.1.toList
def neE (x e : Ent) : Bool := !(x.1.toList == e.1.toList)
/-- One round of the loop. -/
def stp (e : Ent) (s : List Ent × Bool) (x : Ent) : List Ent × Bool :=
  (s.1 ++ (if (!s.2 && geE x e) = true then [e] else []) ++ (if neE x e = true then [x] else []), s.2 || geE x e)
def run (e : Ent) (xs : List Ent) : List Ent × Bool := xs.foldl (stp e) ([], false)
def putL (xs : List Ent) (e : Ent) : List Ent := if (run e xs).2 = true then (run e xs).1 else (run e xs).1 ++ [e]

theorem run_nil (e : Ent) : run e [] = ([], false) := rfl
theorem run_snoc (e : Ent) (xs : List Ent) (x : Ent) : run e (xs ++ [x]) = stp e (run e xs) x := by unfold run; rw [List.foldl_append]; rfl
theorem take_snoc {α : Type} (xs : List α) (k : Nat) (h : k < xs.length) : xs.take (k + 1) = xs.take k ++ [xs[k]] := by
  rw [List.take_succ_eq_append_getElem h]
theorem run_take (e : Ent) (xs : List Ent) (k : Nat) (h : k < xs.length) : run e (xs.take (k + 1)) = stp e (run e (xs.take k)) xs[k] := by
  rw [take_snoc xs k h, run_snoc]

theorem stp_len (e : Ent) (s : List Ent × Bool) (x : Ent) (n : Nat) (h : s.1.length ≤ n + (if s.2 = true then 1 else 0)) : (stp e s x).1.length ≤ n + 1 + (if (stp e s x).2 = true then 1 else 0) := by
  unfold stp
  obtain ⟨l, d⟩ := s
  cases d <;> cases geE x e <;> cases neE x e <;> simp at h ⊢ <;> omega
theorem run_len (e : Ent) (xs : List Ent) : ∀ k, k ≤ xs.length → (run e (xs.take k)).1.length ≤ k + (if (run e (xs.take k)).2 = true then 1 else 0)
  | 0, _ => by simp [run_nil]
  | k + 1, h => by rw [run_take e xs k (by omega)]; exact stp_len _ _ _ _ (run_len e xs k (by omega))
theorem run_len' (e : Ent) (xs : List Ent) (k : Nat) (h : k ≤ xs.length) : (run e (xs.take k)).1.length ≤ k + 1 := by
  have := run_len e xs k h; split at this <;> omega
theorem putL_len (xs : List Ent) (e : Ent) : (putL xs e).length ≤ xs.length + 1 := by
  have := run_len e xs xs.length (Nat.le_refl _)
  rw [List.take_length] at this
  unfold putL
  split
  · rename_i h; rw [if_pos h] at this; exact this
  · rename_i h; rw [if_neg h] at this; simp; omega

/-! ### Strictly ascending -/
def Asc : List Ent → Prop
  | [] => True
  | [_] => True
  | x :: y :: r => ltB x.1.toList y.1.toList = true ∧ Asc (y :: r)

theorem asc_cons {x : Ent} : ∀ {r : List Ent}, Asc (x :: r) → Asc r
  | [], _ => trivial
  | _ :: _, h => h.2
theorem asc_head {x : Ent} : ∀ {r : List Ent}, Asc (x :: r) → ∀ y ∈ r, ltB x.1.toList y.1.toList = true
  | [], _, y, hy => by simp at hy
  | z :: r, h, y, hy => by
    rcases List.mem_cons.1 hy with rfl | hy
    · exact h.1
    · exact ltB_trans _ _ _ h.1 (asc_head h.2 y hy)
theorem asc_mk {x : Ent} {r : List Ent} (h : Asc r) (hx : ∀ y ∈ r, ltB x.1.toList y.1.toList = true) : Asc (x :: r) := by
  cases r with
  | nil => trivial
  | cons z r => exact ⟨hx z (by simp), h⟩

/-- What the loop builds, from the front. -/
def ins (e : Ent) : Bool → List Ent → List Ent
  | d, [] => if d = true then [] else [e]
  | d, x :: r => (if (!d && geE x e) = true then [e] else []) ++ ((if neE x e = true then [x] else []) ++ ins e (d || geE x e) r)

theorem ins_of_fold (e : Ent) : ∀ (xs : List Ent) (l : List Ent) (d : Bool),
    (let s := xs.foldl (stp e) (l, d); if s.2 = true then s.1 else s.1 ++ [e]) = l ++ ins e d xs
  | [], l, d => by cases d <;> simp [ins]
  | x :: r, l, d => by
    rw [List.foldl_cons]
    have := ins_of_fold e r (stp e (l, d) x).1 (stp e (l, d) x).2
    simp only [Prod.eta] at this
    rw [this]
    simp [stp, ins]
theorem putL_ins (xs : List Ent) (e : Ent) : putL xs e = ins e false xs := by
  have := ins_of_fold e xs [] false
  rw [List.nil_append] at this
  exact this

/-- The rest, once the entry is in: only its own key is left out. -/
theorem ins_done (e : Ent) : ∀ xs : List Ent, ins e true xs = xs.filter (neE · e)
  | [] => rfl
  | x :: r => by
    rw [ins, List.filter_cons, Bool.true_or, ins_done e r]
    cases neE x e <;> simp

theorem ltB_of_ge_ne (x e : Ent) (h : geE x e = true) (n : neE x e = true) : ltB e.1.toList x.1.toList = true := by
  unfold geE at h; unfold neE at n
  simp only [Bool.not_eq_true'] at h n
  cases hx : ltB e.1.toList x.1.toList
  · have := ltB_tri _ _ hx h; rw [this] at n; simp at n
  · rfl

theorem asc_filter (p : Ent → Bool) : ∀ {xs : List Ent}, Asc xs → Asc (xs.filter p)
  | [], _ => trivial
  | x :: r, h => by
    rw [List.filter_cons]
    split
    · exact asc_mk (asc_filter p (asc_cons h)) fun y hy => asc_head h y (List.mem_filter.1 hy).1
    · exact asc_filter p (asc_cons h)

theorem ins_mem (e : Ent) (y : Ent) : ∀ (d : Bool) (xs : List Ent), y ∈ ins e d xs → y = e ∨ y ∈ xs
  | d, [], h => by cases d <;> simp [ins] at h; exact .inl h
  | d, x :: r, h => by
    rw [ins] at h
    rcases List.mem_append.1 h with h | h
    · split at h
      · exact .inl (by simpa using h)
      · simp at h
    · rcases List.mem_append.1 h with h | h
      · split at h
        · exact .inr (by simp at h; simp [h])
        · simp at h
      · rcases ins_mem e y _ r h with h | h
        · exact .inl h
        · exact .inr (by simp [h])

/-- In an ascending list the entry comes to its place. -/
theorem ins_asc (e : Ent) : ∀ xs : List Ent, Asc xs → Asc (ins e false xs)
  | [], _ => trivial
  | x :: r, h => by
    rw [ins]
    cases hg : geE x e
    · have hlt : ltB x.1.toList e.1.toList = true := by unfold geE at hg; simpa using hg
      have hn : neE x e = true := by
        unfold neE
        cases hx : x.1.toList == e.1.toList
        · rfl
        · rw [beq_iff_eq] at hx; rw [hx, ltB_self] at hlt; exact absurd hlt (by decide)
      rw [hn]
      simp only [Bool.not_false, Bool.and_false, Bool.false_eq_true, if_false, if_true, List.nil_append, Bool.or_false, List.singleton_append]
      exact asc_mk (ins_asc e r (asc_cons h)) fun y hy => by
        rcases ins_mem e y _ _ hy with rfl | hy
        · exact hlt
        · exact asc_head h y hy
    · simp only [Bool.not_false, Bool.and_true, if_true, Bool.or_true, ins_done, List.singleton_append]
      have hall : ∀ y ∈ x :: r, neE y e = true → ltB e.1.toList y.1.toList = true := by
        intro y hy hn
        refine ltB_of_ge_ne y e ?_ hn
        rcases List.mem_cons.1 hy with rfl | hy
        · exact hg
        · unfold geE at hg ⊢
          simp only [Bool.not_eq_true'] at hg ⊢
          exact ltB_asymm _ _ (le_lt _ _ _ hg (asc_head h y hy))
      have e1 : (if neE x e = true then [x] else []) ++ r.filter (neE · e) = (x :: r).filter (neE · e) := by
        rw [List.filter_cons]; split <;> rfl
      rw [e1]
      exact asc_mk (asc_filter _ h) fun y hy => hall y (List.mem_filter.1 hy).1 (by simpa using (List.mem_filter.1 hy).2)

theorem putL_asc (xs : List Ent) (e : Ent) (h : Asc xs) : Asc (putL xs e) := by rw [putL_ins]; exact ins_asc e xs h

theorem asc_at : ∀ (xs : List Ent), Asc xs → ∀ (k : Nat) (h : k + 1 < xs.length), ltB (xs[k]).1.toList (xs[k + 1]).1.toList = true
  | [], _, k, h => by simp at h
  | [_], _, k, h => by simp at h
  | x :: y :: r, ha, 0, _ => ha.1
  | x :: y :: r, ha, k + 1, h => by
    have := asc_at (y :: r) ha.2 k (by simpa using h)
    simpa using this

end Go.Proofs.Ytboieccjikcdiaa.PlainE
