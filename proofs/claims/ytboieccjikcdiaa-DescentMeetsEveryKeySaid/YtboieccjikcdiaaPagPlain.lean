/-
  Plain facts about rows of slots in strictly ascending order: how many keys lie below a key, where a slot is inserted, what removing keys leaves. No program is spoken of. Condition: none.
-/
import Derived.Test.YtboieccjikcdiaaKeysPlain
import Derived.WalkKit
import Derived.Lib.Strings
namespace Go.Proofs.Ytboieccjikcdiaa.Plain
open Go

/-- A slot: its key and its reference. -/
abbrev Sl := ByteArray × Nat
/-- The slots' cells, one behind the other. -/
def flat : List Sl → List Value
  | [] => []
  | x :: r => .string x.1 :: .int .u64 (x.2 : Int) :: flat r

theorem flat_length : ∀ xs : List Sl, (flat xs).length = xs.length * 2
  | [] => rfl
  | x :: r => by simp [flat, flat_length r]; omega
theorem flat_append : ∀ xs ys : List Sl, flat (xs ++ ys) = flat xs ++ flat ys
  | [], _ => rfl
  | x :: r, ys => by simp [flat, flat_append r ys]
theorem flat_at : ∀ (xs : List Sl) (k : Nat) (x : Sl), xs[k]? = some x → (flat xs)[k * 2]? = some (.string x.1) ∧ (flat xs)[k * 2 + 1]? = some (.int .u64 (x.2 : Int))
  | [], k, x, h => by simp at h
  | y :: r, 0, x, h => by simp at h; subst h; simp [flat]
  | y :: r, k + 1, x, h => by
    have := flat_at r k x (by simpa using h)
    have e : (k + 1) * 2 = k * 2 + 1 + 1 := by omega
    rw [e]
    simp only [flat, List.getElem?_cons_succ]
    exact this
theorem flat_set : ∀ (xs : List Sl) (k : Nat) (x : Sl), xs[k]? = some x → ∀ r : Nat, (flat xs).set (k * 2 + 1) (.int .u64 (r : Int)) = flat (xs.set k (x.1, r))
  | [], k, x, h, r => by simp at h
  | y :: ys, 0, x, h, r => by simp at h; subst h; simp [flat]
  | y :: ys, k + 1, x, h, r => by
    have e : (k + 1) * 2 + 1 = (k * 2 + 1) + 1 + 1 := by omega
    rw [e]
    simp only [flat, List.set_cons_succ, flat_set ys k x (by simpa using h) r]
theorem flat_one : ∀ (l : List Sl), ∀ u ∈ flat l, u.oneCell' = true
  | [], u, h => by simp [flat] at h
  | c :: r, u, h => by
    simp only [flat, List.mem_cons] at h
    rcases h with rfl | rfl | h
    · rfl
    · rfl
    · exact flat_one r u h

def lt (x : Sl) (k : ByteArray) : Bool := ltB x.1.toList k.toList
def eqk (x : Sl) (k : ByteArray) : Bool := x.1.toList == k.toList

theorem toList_inj {a b : ByteArray} (h : a.toList = b.toList) : a = b := by
  rw [Lib.toList_data, Lib.toList_data] at h
  obtain ⟨⟨a⟩⟩ := a
  obtain ⟨⟨b⟩⟩ := b
  simp only at h
  rw [h]

/-- Strictly ascending. -/
def Asc : List Sl → Prop
  | [] => True
  | [_] => True
  | x :: y :: r => lt x y.1 = true ∧ Asc (y :: r)

theorem asc_tail {x : Sl} : ∀ {r : List Sl}, Asc (x :: r) → Asc r
  | [], _ => trivial
  | _ :: _, h => h.2
theorem asc_head {x : Sl} : ∀ {r : List Sl}, Asc (x :: r) → ∀ y ∈ r, lt x y.1 = true
  | [], _, y, hy => by simp at hy
  | z :: r, h, y, hy => by
    rcases List.mem_cons.1 hy with rfl | hy
    · exact h.1
    · exact ltB_trans _ _ _ h.1 (asc_head h.2 y hy)
theorem asc_mk {x : Sl} {r : List Sl} (h : Asc r) (hx : ∀ y ∈ r, lt x y.1 = true) : Asc (x :: r) := by
  cases r with
  | nil => trivial
  | cons z r => exact ⟨hx z (by simp), h⟩

/-- How many keys lie below k. -/
def cnt (k : ByteArray) (xs : List Sl) : Nat := xs.countP (lt · k)
def has (k : ByteArray) (xs : List Sl) : Bool := xs.any (eqk · k)

theorem cnt_le (k : ByteArray) (xs : List Sl) : cnt k xs ≤ xs.length := List.countP_le_length
theorem cnt_yes {x : Sl} {k : ByteArray} {r : List Sl} (h : lt x k = true) : cnt k (x :: r) = cnt k r + 1 := by unfold cnt; exact List.countP_cons_of_pos (p := (lt · k)) h
theorem cnt_zero {k : ByteArray} {r : List Sl} (h : ∀ y ∈ r, lt y k = false) : cnt k r = 0 := by
  unfold cnt; rw [List.countP_eq_zero]; intro y hy; rw [h y hy]; decide
theorem after_ge {x : Sl} {k : ByteArray} {r : List Sl} (ha : Asc (x :: r)) (h : lt x k = false) : ∀ y ∈ r, lt y k = false := fun y hy => by
  cases hy' : lt y k
  · rfl
  · have := ltB_trans _ _ _ (asc_head ha y hy) hy'; rw [show lt x k = true from this] at h; cases h
theorem cnt_no {x : Sl} {k : ByteArray} {r : List Sl} (ha : Asc (x :: r)) (h : lt x k = false) : cnt k (x :: r) = 0 :=
  cnt_zero fun y hy => by
    rcases List.mem_cons.1 hy with rfl | hy
    · exact h
    · exact after_ge ha h y hy

/-- In an ascending row just the first so many keys lie below. -/
theorem lt_at : ∀ (xs : List Sl), Asc xs → ∀ (k : ByteArray) (i : Nat) (x : Sl), xs[i]? = some x → lt x k = decide (i < cnt k xs)
  | [], _, k, i, x, h => by simp at h
  | y :: r, ha, k, 0, x, h => by
    simp at h; subst h
    cases hy : lt y k
    · rw [cnt_no ha hy]; rfl
    · rw [cnt_yes hy]; simp
  | y :: r, ha, k, i + 1, x, h => by
    have h' : r[i]? = some x := by simpa using h
    cases hy : lt y k
    · rw [cnt_no ha hy, after_ge ha hy x (List.mem_of_getElem? h')]; rfl
    · rw [cnt_yes hy, lt_at r (asc_tail ha) k i x h']; simp

theorem eqk_not_lt {x : Sl} {k : ByteArray} (h : eqk x k = true) : lt x k = false := by
  unfold eqk at h; unfold lt
  rw [beq_iff_eq] at h; rw [h, ltB_self]
theorem eqk_eq {x : Sl} {k : ByteArray} (h : eqk x k = true) : x.1 = k := by unfold eqk at h; rw [beq_iff_eq] at h; exact toList_inj h
theorem eqk_self (k : ByteArray) (r : Nat) : eqk (k, r) k = true := by unfold eqk; simp
theorem eqk_no {a b : ByteArray} (h : a ≠ b) (r : Nat) : eqk (a, r) b = false := by
  cases hx : eqk (a, r) b
  · rfl
  · exact absurd (eqk_eq hx) h

/-- A key is there just if the slot behind those below it has it. -/
theorem has_at : ∀ (xs : List Sl), Asc xs → ∀ (k : ByteArray), has k xs = (match xs[cnt k xs]? with | some x => eqk x k | none => false)
  | [], _, k => rfl
  | y :: r, ha, k => by
    cases hy : lt y k
    · rw [cnt_no ha hy]
      simp only [List.getElem?_cons_zero]
      unfold has; rw [List.any_cons]
      cases he : eqk y k
      · rw [Bool.false_or, List.any_eq_false]
        intro z hz hzk
        have h1 := asc_head ha z hz
        have h2 := eqk_eq hzk
        rw [h2] at h1; rw [h1] at hy; cases hy
      · rfl
    · rw [cnt_yes hy, List.getElem?_cons_succ, ← has_at r (asc_tail ha) k]
      unfold has; rw [List.any_cons]
      cases he : eqk y k
      · rfl
      · rw [eqk_not_lt he] at hy; cases hy

theorem cnt_take {k : ByteArray} {xs : List Sl} {j : Nat} {x : Sl} (h : xs[j]? = some x) : cnt k (xs.take (j + 1)) = cnt k (xs.take j) + (if lt x k = true then 1 else 0) := by
  obtain ⟨hj, rfl⟩ := List.getElem?_eq_some_iff.1 h
  rw [List.take_succ_eq_append_getElem hj]; unfold cnt; rw [List.countP_append, List.countP_singleton]
theorem has_take {k : ByteArray} {xs : List Sl} {j : Nat} {x : Sl} (h : xs[j]? = some x) : has k (xs.take (j + 1)) = (has k (xs.take j) || eqk x k) := by
  obtain ⟨hj, rfl⟩ := List.getElem?_eq_some_iff.1 h
  rw [List.take_succ_eq_append_getElem hj]; unfold has; rw [List.any_append]; simp
theorem has_in {xs : List Sl} (ha : Asc xs) {k : ByteArray} (h : has k xs = true) : ∃ x, xs[cnt k xs]? = some x ∧ x.1 = k ∧ cnt k xs < xs.length := by
  rw [has_at xs ha k] at h
  split at h
  · rename_i x hx; exact ⟨x, hx, eqk_eq h, (List.getElem?_eq_some_iff.1 hx).1⟩
  · cases h

/-! ### Inserting -/
def ins (e : Sl) : List Sl → List Sl
  | [] => [e]
  | x :: r => if lt x e.1 = true then x :: ins e r else e :: x :: r

theorem ins_cut : ∀ (xs : List Sl) (e : Sl), Asc xs → ins e xs = xs.take (cnt e.1 xs) ++ e :: xs.drop (cnt e.1 xs)
  | [], e, _ => rfl
  | x :: r, e, ha => by
    unfold ins
    cases h : lt x e.1
    · rw [cnt_no ha h]; simp
    · rw [cnt_yes h]; simp [ins_cut r e (asc_tail ha)]
theorem ins_length : ∀ (e : Sl) (xs : List Sl), (ins e xs).length = xs.length + 1
  | e, [] => rfl
  | e, x :: r => by unfold ins; split <;> simp [ins_length e r]
theorem ins_mem {e y : Sl} : ∀ {xs : List Sl}, y ∈ ins e xs ↔ y = e ∨ y ∈ xs
  | [] => by simp [ins]
  | x :: r => by
    unfold ins; split
    · rw [List.mem_cons, ins_mem (xs := r), List.mem_cons]
      constructor
      · rintro (h | h | h)
        · exact .inr (.inl h)
        · exact .inl h
        · exact .inr (.inr h)
      · rintro (h | h | h)
        · exact .inr (.inl h)
        · exact .inl h
        · exact .inr (.inr h)
    · simp
theorem lt_of_not {x : Sl} {e : Sl} (h : lt x e.1 = false) (n : eqk x e.1 = false) : lt e x.1 = true := by
  cases hx : lt e x.1
  · have := ltB_tri _ _ h hx; unfold eqk at n; rw [this] at n; simp at n
  · rfl
theorem has_cons {k : ByteArray} {x : Sl} {r : List Sl} : has k (x :: r) = (eqk x k || has k r) := rfl
theorem ins_asc : ∀ (e : Sl) (xs : List Sl), Asc xs → has e.1 xs = false → Asc (ins e xs)
  | e, [], _, _ => trivial
  | e, x :: r, ha, hn => by
    rw [has_cons, Bool.or_eq_false_iff] at hn
    unfold ins
    cases h : lt x e.1
    · simp only [Bool.false_eq_true, if_false]
      refine asc_mk ha fun y hy => ?_
      rcases List.mem_cons.1 hy with rfl | hy
      · exact lt_of_not h hn.1
      · exact ltB_trans _ _ _ (lt_of_not h hn.1) (asc_head ha y hy)
    · simp only [if_true]
      refine asc_mk (ins_asc e r (asc_tail ha) hn.2) fun y hy => ?_
      rcases ins_mem.1 hy with rfl | hy
      · exact h
      · exact asc_head ha y hy
theorem ins_has (e : Sl) (k : ByteArray) : ∀ xs : List Sl, has k (ins e xs) = (eqk e k || has k xs)
  | [] => rfl
  | x :: r => by
    unfold ins; split
    · rw [has_cons, ins_has e k r, has_cons]; cases eqk x k <;> cases eqk e k <;> simp
    · rfl
theorem not_lt_self (e : Sl) : lt e e.1 = false := ltB_self _
theorem ins_cnt : ∀ (e : Sl) (xs : List Sl), Asc xs → cnt e.1 (ins e xs) = cnt e.1 xs
  | e, [], _ => by unfold ins; exact cnt_zero (by simp [not_lt_self])
  | e, x :: r, ha => by
    unfold ins
    cases h : lt x e.1
    · simp only [Bool.false_eq_true, if_false]
      rw [cnt_no ha h]
      refine cnt_zero fun y hy => ?_
      rcases List.mem_cons.1 hy with rfl | hy
      · exact not_lt_self _
      · rcases List.mem_cons.1 hy with rfl | hy
        · exact h
        · exact after_ge ha h y hy
    · simp only [if_true]
      rw [cnt_yes h, cnt_yes h, ins_cnt e r (asc_tail ha)]
theorem ins_at (e : Sl) (xs : List Sl) (ha : Asc xs) : (ins e xs)[cnt e.1 xs]? = some e := by
  have := cnt_le e.1 xs
  rw [ins_cut xs e ha, List.getElem?_append_right (by simp; omega), List.length_take, Nat.min_eq_left this]; simp

/-- Two slots can be inserted in either order. -/
theorem lt_either {a b : Sl} (h : a.1 ≠ b.1) : (lt a b.1 = true ∧ lt b a.1 = false) ∨ (lt a b.1 = false ∧ lt b a.1 = true) := by
  cases h1 : lt a b.1
  · cases h2 : lt b a.1
    · exact absurd (toList_inj (ltB_tri _ _ h1 h2)) h
    · exact .inr ⟨rfl, rfl⟩
  · exact .inl ⟨rfl, ltB_asymm _ _ h1⟩
theorem ins_comm : ∀ (a b : Sl) (xs : List Sl), Asc xs → a.1 ≠ b.1 → ins a (ins b xs) = ins b (ins a xs)
  | a, b, [], _, h => by
    rcases lt_either h with ⟨h1, h2⟩ | ⟨h1, h2⟩ <;> simp [ins, h1, h2]
  | a, b, x :: r, ha, h => by
    have hI := ins_comm a b r (asc_tail ha) h
    cases ha1 : lt x a.1 <;> cases hb1 : lt x b.1
    · rcases lt_either h with ⟨h1, h2⟩ | ⟨h1, h2⟩ <;> simp [ins, ha1, hb1, h1, h2]
    · have h2 : lt a b.1 = true := le_lt _ _ _ ha1 hb1
      simp [ins, ha1, hb1, h2]
    · have h2 : lt b a.1 = true := le_lt _ _ _ hb1 ha1
      simp [ins, ha1, hb1, h2]
    · simp only [ins, ha1, hb1, if_true, hI]

/-- What the reference has built when it stands at place j. -/
def insAt (e : Sl) (xs : List Sl) (q j : Nat) : List Sl := xs.take q ++ e :: (xs.drop q).take (j - q)
theorem insAt_start (e : Sl) (xs : List Sl) (q : Nat) : insAt e xs q q = xs.take q ++ [e] := by unfold insAt; rw [Nat.sub_self, List.take_zero]
theorem insAt_step {e : Sl} {xs : List Sl} {q j : Nat} {x : Sl} (hq : q ≤ j) (hx : xs[j]? = some x) : insAt e xs q (j + 1) = insAt e xs q j ++ [x] := by
  obtain ⟨hj, rfl⟩ := List.getElem?_eq_some_iff.1 hx
  have h1 : j - q < (xs.drop q).length := by rw [List.length_drop]; omega
  have h2 : (xs.drop q)[j - q] = xs[j] := by rw [List.getElem_drop]; congr 1; omega
  unfold insAt
  rw [show j + 1 - q = (j - q) + 1 by omega, List.take_succ_eq_append_getElem h1, h2]; simp
theorem insAt_end (e : Sl) (xs : List Sl) (q : Nat) : insAt e xs q xs.length = xs.take q ++ e :: xs.drop q := by
  have h : (xs.drop q).take (xs.length - q) = xs.drop q := List.take_of_length_le (by rw [List.length_drop]; exact Nat.le_refl _)
  unfold insAt; rw [h]
theorem take_step {xs : List Sl} {j : Nat} {x : Sl} (hx : xs[j]? = some x) : xs.take (j + 1) = xs.take j ++ [x] := by
  obtain ⟨hj, rfl⟩ := List.getElem?_eq_some_iff.1 hx
  exact List.take_succ_eq_append_getElem hj

/-! ### Removing -/
def gone (ks : List ByteArray) (x : Sl) : Bool := ks.any (fun k => k.toList == x.1.toList)
def rem (ks : List ByteArray) (xs : List Sl) : List Sl := xs.filter (fun x => !gone ks x)
theorem rem_length (ks : List ByteArray) (xs : List Sl) : (rem ks xs).length ≤ xs.length := List.length_filter_le _ _
theorem asc_filter (p : Sl → Bool) : ∀ {xs : List Sl}, Asc xs → Asc (xs.filter p)
  | [], _ => trivial
  | x :: r, h => by
    rw [List.filter_cons]
    split
    · exact asc_mk (asc_filter p (asc_tail h)) fun y hy => asc_head h y (List.mem_filter.1 hy).1
    · exact asc_filter p (asc_tail h)
theorem rem_asc (ks : List ByteArray) {xs : List Sl} (h : Asc xs) : Asc (rem ks xs) := asc_filter _ h
theorem rem_has (ks : List ByteArray) (xs : List Sl) {x : Sl} (hx : x ∈ xs) : has x.1 (rem ks xs) = !gone ks x := by
  cases hg : gone ks x
  · unfold has rem; rw [List.any_eq_true.2 ⟨x, List.mem_filter.2 ⟨hx, by simp [hg]⟩, eqk_self x.1 x.2⟩]; rfl
  · cases hh : has x.1 (rem ks xs)
    · rfl
    · unfold has rem at hh
      obtain ⟨y, hy, he⟩ := List.any_eq_true.1 hh
      have e := eqk_eq he
      have hy2 := (List.mem_filter.1 hy).2
      unfold gone at hg hy2
      rw [e, hg] at hy2; cases hy2
theorem rem_ins {e : Sl} {ks : List ByteArray} : ∀ {xs : List Sl}, gone ks e = true → rem ks (ins e xs) = rem ks xs
  | [], h => by unfold rem ins; simp [h]
  | x :: r, h => by
    have hI := rem_ins (xs := r) h
    unfold rem at hI
    unfold rem ins; split
    · rw [List.filter_cons, List.filter_cons, hI]
    · rw [List.filter_cons]; simp [h]
theorem rem_none {ks : List ByteArray} {xs : List Sl} (h : ∀ x ∈ xs, gone ks x = false) : rem ks xs = xs := by
  unfold rem; rw [List.filter_eq_self]; intro x hx; rw [h x hx]; rfl
theorem not_gone {k : ByteArray} {xs : List Sl} (h : has k xs = false) : ∀ x ∈ xs, (k.toList == x.1.toList) = false := fun x hx => by
  unfold has at h
  rw [List.any_eq_false] at h
  have := h x hx
  unfold eqk at this
  cases hk : k.toList == x.1.toList
  · rfl
  · rw [beq_iff_eq] at hk; rw [hk] at this; simp at this
theorem rem_one {k : ByteArray} {r : Nat} {xs : List Sl} (h : has k xs = false) : rem [k] (ins (k, r) xs) = xs := by
  rw [rem_ins (by simp [gone])]
  refine rem_none fun x hx => ?_
  unfold gone; simp only [List.any_cons, List.any_nil, Bool.or_false]; exact not_gone h x hx
theorem rem_two {a b : ByteArray} {r s : Nat} {xs : List Sl} (ha : has a xs = false) (hb : has b xs = false) : rem [a, b] (ins (b, s) (ins (a, r) xs)) = xs := by
  rw [rem_ins (by simp [gone]), rem_ins (by simp [gone])]
  refine rem_none fun x hx => ?_
  unfold gone; simp only [List.any_cons, List.any_nil, Bool.or_false]
  rw [not_gone ha x hx, not_gone hb x hx]; rfl

/-! ### A row put in order -/
def putIn (l : List Sl) (x : Sl) : List Sl := if has x.1 l = true then l else ins x l
def sorted (xs : List Sl) : List Sl := xs.foldl putIn []
theorem putIn_asc {l : List Sl} (h : Asc l) (x : Sl) : Asc (putIn l x) := by
  unfold putIn; split
  · exact h
  · rename_i hn; exact ins_asc x l h (by simpa using hn)
theorem foldl_asc : ∀ (xs l : List Sl), Asc l → Asc (xs.foldl putIn l)
  | [], _, h => h
  | x :: r, _, h => foldl_asc r _ (putIn_asc h x)
theorem sorted_asc (xs : List Sl) : Asc (sorted xs) := foldl_asc xs [] trivial
theorem sorted_nil : sorted [] = [] := rfl
theorem sorted_snoc (xs : List Sl) (x : Sl) : sorted (xs ++ [x]) = putIn (sorted xs) x := by unfold sorted; rw [List.foldl_append]; rfl
theorem sorted_take (xs : List Sl) (k : Nat) (x : Sl) (h : xs[k]? = some x) : sorted (xs.take (k + 1)) = putIn (sorted (xs.take k)) x := by
  obtain ⟨hk, rfl⟩ := List.getElem?_eq_some_iff.1 h
  rw [List.take_succ_eq_append_getElem hk, sorted_snoc]
theorem putIn_length (l : List Sl) (x : Sl) : (putIn l x).length ≤ l.length + 1 := by
  unfold putIn; split
  · omega
  · rw [ins_length]; exact Nat.le_refl _
theorem foldl_length : ∀ (xs l : List Sl), (xs.foldl putIn l).length ≤ l.length + xs.length
  | [], _ => Nat.le_refl _
  | x :: r, l => by
    have h1 := foldl_length r (putIn l x)
    have h2 := putIn_length l x
    rw [List.foldl_cons, List.length_cons]; omega
theorem sorted_length (xs : List Sl) : (sorted xs).length ≤ xs.length := by have := foldl_length xs []; simpa [sorted] using this
theorem putIn_mem {l : List Sl} {x y : Sl} (h : y ∈ putIn l x) : y = x ∨ y ∈ l := by
  unfold putIn at h; split at h
  · exact .inr h
  · exact ins_mem.1 h
theorem foldl_mem {y : Sl} : ∀ (xs l : List Sl), y ∈ xs.foldl putIn l → y ∈ l ∨ y ∈ xs
  | [], _, h => .inl h
  | x :: r, l, h => by
    rcases foldl_mem r _ h with h | h
    · rcases putIn_mem h with h | h
      · exact .inr (by simp [h])
      · exact .inl h
    · exact .inr (by simp [h])
theorem sorted_mem {xs : List Sl} {y : Sl} (h : y ∈ sorted xs) : y ∈ xs := (foldl_mem xs [] h).resolve_left (by simp)

/-- References made valid. -/
def fix (x : Sl) : Sl := (x.1, x.2 % 1000 + 1)
theorem asc_map : ∀ {xs : List Sl}, Asc xs → Asc (xs.map fix)
  | [], _ => trivial
  | [_], _ => trivial
  | _ :: y :: r, h => ⟨h.1, asc_map (xs := y :: r) h.2⟩

end Go.Proofs.Ytboieccjikcdiaa.Plain
