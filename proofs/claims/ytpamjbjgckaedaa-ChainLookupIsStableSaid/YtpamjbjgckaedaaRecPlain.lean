/-
  Plain facts about chains of versions, the newest first: where the first one lies that a time has reached, what cutting leaves, what a valid chain is. No program is spoken of. Condition: none.
-/
import Derived.WalkKit
import Derived.Lib.Strings
namespace Go.Proofs.Ytpamjbjgckaedaa.Plain
open Go

/-- A version: its stamp, its value, whether it deletes. -/
abbrev Ve := Nat × ByteArray × Bool
def nul : Ve := (0, ⟨#[]⟩, false)
/-- The versions' cells, one behind the other. -/
def flatv : List Ve → List Value
  | [] => []
  | x :: r => .int .u64 (x.1 : Int) :: .string x.2.1 :: .bool x.2.2 :: flatv r
theorem flatv_length : ∀ xs : List Ve, (flatv xs).length = xs.length * 3
  | [] => rfl
  | x :: r => by simp [flatv, flatv_length r]; omega
theorem flatv_append : ∀ xs ys : List Ve, flatv (xs ++ ys) = flatv xs ++ flatv ys
  | [], _ => rfl
  | x :: r, ys => by simp [flatv, flatv_append r ys]
theorem flatv_at : ∀ (xs : List Ve) (k : Nat) (x : Ve), xs[k]? = some x → (flatv xs)[k * 3]? = some (.int .u64 (x.1 : Int)) ∧ (flatv xs)[k * 3 + 1]? = some (.string x.2.1) ∧ (flatv xs)[k * 3 + 2]? = some (.bool x.2.2)
  | [], k, x, h => by simp at h
  | y :: r, 0, x, h => by simp at h; subst h; simp [flatv]
  | y :: r, k + 1, x, h => by
    have := flatv_at r k x (by simpa using h)
    have e : (k + 1) * 3 = k * 3 + 1 + 1 + 1 := by omega
    rw [e]
    simp only [flatv, List.getElem?_cons_succ]
    exact this
theorem flatv_one : ∀ (l : List Ve), ∀ u ∈ flatv l, u.oneCell' = true
  | [], u, h => by simp [flatv] at h
  | c :: r, u, h => by
    simp only [flatv, List.mem_cons] at h
    rcases h with rfl | rfl | rfl | h
    · rfl
    · rfl
    · rfl
    · exact flatv_one r u h
theorem flatv_head (x : Ve) (r : List Ve) (s : Nat) : (flatv (x :: r)).set 0 (.int .u64 (s : Int)) = flatv ((s, x.2) :: r) := rfl

/-! ### What a time sees -/
/-- A version that is not pending and whose stamp is at most t. -/
def rch (t : Nat) (x : Ve) : Bool := !(x.1 == 0) && decide (x.1 ≤ t)
theorem rch_iff {t : Nat} {x : Ve} : rch t x = true ↔ x.1 ≠ 0 ∧ x.1 ≤ t := by unfold rch; simp
theorem rch_no {t : Nat} {x : Ve} : rch t x = false ↔ (x.1 ≠ 0 → t < x.1) := by
  cases h : rch t x
  · simp only [true_iff]; intro h0
    refine Nat.lt_of_not_le fun hle => ?_
    rw [rch_iff.2 ⟨h0, hle⟩] at h; cases h
  · simp only [Bool.true_eq_false, false_iff]; intro hh
    have := rch_iff.1 h
    have := hh this.1
    omega
theorem rch_mono {s t : Nat} {x : Ve} (h : s ≤ t) (hx : rch s x = true) : rch t x = true := by
  rw [rch_iff] at hx ⊢; exact ⟨hx.1, by omega⟩
/-- The place of the first version that t has reached, or the length. -/
def fnd (t : Nat) : List Ve → Nat
  | [] => 0
  | x :: r => if rch t x = true then 0 else fnd t r + 1
theorem fnd_le (t : Nat) : ∀ l : List Ve, fnd t l ≤ l.length
  | [] => Nat.le_refl _
  | x :: r => by
    have := fnd_le t r
    unfold fnd; split
    · exact Nat.zero_le _
    · simp only [List.length_cons]; omega
theorem fnd_at (t : Nat) : ∀ (l : List Ve) (x : Ve), l[fnd t l]? = some x → rch t x = true
  | [], x, h => by simp at h
  | y :: r, x, h => by
    unfold fnd at h
    split at h
    · rename_i hy; simp at h; subst h; exact hy
    · rw [List.getElem?_cons_succ] at h; exact fnd_at t r x h
theorem fnd_before (t : Nat) : ∀ (l : List Ve) (i : Nat) (x : Ve), i < fnd t l → l[i]? = some x → rch t x = false
  | [], i, x, h, _ => by simp [fnd] at h
  | y :: r, i, x, h, hx => by
    unfold fnd at h
    split at h
    · omega
    · rename_i hy
      cases i with
      | zero => simp at hx; subst hx; simpa using hy
      | succ i => rw [List.getElem?_cons_succ] at hx; exact fnd_before t r i x (by omega) hx
theorem fnd_hit {t : Nat} {l : List Ve} {j : Nat} {x : Ve} (h : j ≤ fnd t l) (hx : l[j]? = some x) (hr : rch t x = true) : fnd t l = j := by
  rcases Nat.lt_or_ge j (fnd t l) with hlt | hge
  · rw [fnd_before t l j x hlt hx] at hr; cases hr
  · omega
theorem fnd_miss {t : Nat} {l : List Ve} {j : Nat} {x : Ve} (h : j ≤ fnd t l) (hx : l[j]? = some x) (hr : rch t x = false) : j + 1 ≤ fnd t l := by
  rcases Nat.lt_or_ge j (fnd t l) with hlt | hge
  · omega
  · have : j = fnd t l := by omega
    subst this
    rw [fnd_at t l x hx] at hr; cases hr
theorem fnd_unique {t : Nat} {l : List Ve} {j : Nat} (hb : ∀ i x, i < j → l[i]? = some x → rch t x = false) (hj : j ≤ l.length) (ha : ∀ x, l[j]? = some x → rch t x = true) : fnd t l = j := by
  rcases Nat.lt_trichotomy (fnd t l) j with h | h | h
  · have hx : l[fnd t l]? = some l[fnd t l] := List.getElem?_eq_getElem (by omega)
    have h1 := fnd_at t l _ hx
    rw [hb _ _ h hx] at h1; cases h1
  · exact h
  · have hl := fnd_le t l
    have hx : l[j]? = some l[j] := List.getElem?_eq_getElem (by omega)
    have h1 := fnd_before t l _ _ h hx
    rw [ha _ hx] at h1; cases h1
/-- A later time reaches no later version. -/
theorem fnd_mono {s t : Nat} (h : s ≤ t) (l : List Ve) : fnd t l ≤ fnd s l := by
  refine Nat.le_of_not_lt fun hlt => ?_
  have hl := fnd_le t l
  have hx : l[fnd s l]? = some l[fnd s l] := List.getElem?_eq_getElem (by omega)
  have h1 := rch_mono h (fnd_at s l _ hx)
  rw [fnd_before t l _ _ hlt hx] at h1; cases h1
theorem fnd_head {t : Nat} {x : Ve} {r : List Ve} : fnd t (x :: r) = 0 ↔ rch t x = true := by
  unfold fnd; split
  · rename_i h; simp [h]
  · rename_i h; simp [h]
/-- What stands before the end of a beginning is found in it as in the whole. -/
theorem fnd_take {t : Nat} {l : List Ve} {k : Nat} (h : fnd t l < k ∨ l.length ≤ k) : fnd t (l.take k) = fnd t l := by
  have hl := fnd_le t l
  refine fnd_unique (fun i x hi hx => ?_) (by rw [List.length_take]; omega) (fun x hx => ?_)
  · rw [List.getElem?_take] at hx
    split at hx
    · exact fnd_before t l i x hi hx
    · cases hx
  · rw [List.getElem?_take] at hx
    split at hx
    · exact fnd_at t l x hx
    · cases hx

/-- The version that t sees. -/
def vis (t : Nat) (l : List Ve) : Ve × Bool := match l[fnd t l]? with | some x => (x, true) | none => (nul, false)
theorem vis_yes {t : Nat} {l : List Ve} {x : Ve} (h : l[fnd t l]? = some x) : vis t l = (x, true) := by unfold vis; rw [h]
theorem vis_no {t : Nat} {l : List Ve} (h : fnd t l = l.length) : vis t l = (nul, false) := by
  unfold vis; rw [List.getElem?_eq_none (by omega)]
/-- The value that t sees. -/
def val (t : Nat) (l : List Ve) : ByteArray × Bool := match vis t l with | (x, true) => if x.2.2 = true then (⟨#[]⟩, false) else (x.2.1, true) | (_, false) => (⟨#[]⟩, false)

/-! ### Cutting -/
def cutAt (f : Nat) (l : List Ve) : Nat := min (fnd f l + 1) l.length
def cut (f : Nat) (l : List Ve) : List Ve := l.take (cutAt f l)
theorem cutAt_le (f : Nat) (l : List Ve) : cutAt f l ≤ l.length := by unfold cutAt; omega
theorem cut_length (f : Nat) (l : List Ve) : (cut f l).length = cutAt f l := by unfold cut; rw [List.length_take]; have := cutAt_le f l; omega
theorem fnd_cut {f t : Nat} (h : f ≤ t) (l : List Ve) : fnd t (cut f l) = fnd t l := by
  have h1 := fnd_mono h l
  have h2 := fnd_le f l
  unfold cut
  refine fnd_take ?_
  unfold cutAt
  omega
/-- From the floor upwards cutting changes nothing that is seen. -/
theorem vis_cut {f t : Nat} (h : f ≤ t) (l : List Ve) : vis t (cut f l) = vis t l := by
  have h0 := fnd_cut h l
  have h1 := fnd_mono h l
  have h2 := fnd_le f l
  unfold vis
  rw [h0]
  unfold cut
  rw [List.getElem?_take]
  by_cases hn : fnd t l < cutAt f l
  · rw [if_pos hn]
  · rw [if_neg hn]
    unfold cutAt at hn
    rw [List.getElem?_eq_none (by omega)]
theorem cut_cut {a b : Nat} (h : a ≤ b) (l : List Ve) : cut b (cut a l) = cut b l := by
  have h0 := fnd_cut h l
  have h1 := fnd_mono h l
  have h2 := fnd_le a l
  have h3 := cut_length a l
  have h4 : cutAt b (cut a l) = cutAt b l := by
    unfold cutAt at h3 ⊢
    rw [h0, h3]; omega
  have h5 : cutAt b l ≤ cutAt a l := by unfold cutAt; omega
  show (cut a l).take (cutAt b (cut a l)) = l.take (cutAt b l)
  rw [h4]; unfold cut
  rw [List.take_take, Nat.min_eq_left h5]
theorem old_take {f : Nat} {l : List Ve} {j : Nat} {x : Ve} (h : l[j]? = some x) : (l.take (j + 1)).countP (rch f) = (l.take j).countP (rch f) + (if rch f x = true then 1 else 0) := by
  obtain ⟨hj, rfl⟩ := List.getElem?_eq_some_iff.1 h
  rw [List.take_succ_eq_append_getElem hj, List.countP_append, List.countP_singleton]
theorem old_zero {f : Nat} {l : List Ve} {k : Nat} (h : k ≤ fnd f l) : (l.take k).countP (rch f) = 0 := by
  rw [List.countP_eq_zero]
  intro x hx
  obtain ⟨i, hi, rfl⟩ := List.getElem_of_mem hx
  have h1 : (l.take k)[i]? = some (l.take k)[i] := List.getElem?_eq_getElem hi
  rw [List.length_take] at hi
  rw [List.getElem?_take, if_pos (by omega)] at h1
  rw [fnd_before f l i _ (by omega) h1]; decide
/-- What cutting leaves holds at most one version that the floor has reached. -/
theorem old_cut (f : Nat) (l : List Ve) : (cut f l).countP (rch f) ≤ 1 := by
  have h2 := fnd_le f l
  unfold cut cutAt
  by_cases h : fnd f l = l.length
  · rw [old_zero (by omega)]; omega
  · have e : min (fnd f l + 1) l.length = fnd f l + 1 := by omega
    have hx : l[fnd f l]? = some l[fnd f l] := List.getElem?_eq_getElem (by omega)
    rw [e, old_take hx, old_zero (Nat.le_refl _)]
    split <;> omega

/-- Nobody sees a value from f upwards, and no pending version is there. -/
def dead (f : Nat) : List Ve → Bool
  | [] => true
  | x :: _ => rch f x && x.2.2
theorem dead_mono {a b : Nat} (h : a ≤ b) (l : List Ve) (hd : dead a l = true) : dead b l = true := by
  cases l with
  | nil => rfl
  | cons x r =>
    unfold dead at hd ⊢
    rw [Bool.and_eq_true] at hd ⊢
    exact ⟨rch_mono h hd.1, hd.2⟩
theorem dead_val {f t : Nat} (h : f ≤ t) (l : List Ve) (hd : dead f l = true) : (val t l).2 = false := by
  cases l with
  | nil => rfl
  | cons x r =>
    unfold dead at hd
    rw [Bool.and_eq_true] at hd
    have h1 := rch_mono h hd.1
    have h2 : vis t (x :: r) = (x, true) := vis_yes (by rw [fnd_head.2 h1]; rfl)
    unfold val; rw [h2]; simp [hd.2]
theorem live_val {f : Nat} {x : Ve} {r : List Ve} (hx : rch f x = true) (hd : dead f (x :: r) = false) : (val f (x :: r)).2 = true := by
  change (rch f x && x.2.2) = false at hd
  rw [hx, Bool.true_and] at hd
  have h2 : vis f (x :: r) = (x, true) := vis_yes (by rw [fnd_head.2 hx]; rfl)
  unfold val; rw [h2]; simp [hd]

/-- The stamps that are not pending. -/
def tms (l : List Ve) : List Nat := (l.filter fun x => !(x.1 == 0)).map (·.1)
theorem tms_take {l : List Ve} {j : Nat} {x : Ve} (h : l[j]? = some x) : tms (l.take (j + 1)) = if x.1 = 0 then tms (l.take j) else tms (l.take j) ++ [x.1] := by
  obtain ⟨hj, rfl⟩ := List.getElem?_eq_some_iff.1 h
  unfold tms
  rw [List.take_succ_eq_append_getElem hj, List.filter_append, List.map_append]
  split
  · rename_i h0; simp [h0]
  · rename_i h0; simp [h0]
theorem tms_length_le (l : List Ve) : (tms l).length ≤ l.length := by unfold tms; rw [List.length_map]; exact List.length_filter_le _ _

/-! ### Valid chains -/
/-- A version that deletes and yet has a value. -/
def bad (x : Ve) : Bool := x.2.2 && !x.2.1.toList.isEmpty
/-- May y come right behind the newer x? -/
def flw (y x : Ve) : Bool := !(y.1 == 0) && ((x.1 == 0) || decide (y.1 < x.1))
theorem flw_iff {y x : Ve} : flw y x = true ↔ y.1 ≠ 0 ∧ (x.1 = 0 ∨ y.1 < x.1) := by unfold flw; simp
/-- The chain is valid. -/
def ChkI (xs : List Ve) : Prop := (∀ (i : Nat) (x : Ve), xs[i]? = some x → bad x = false) ∧ (∀ (i : Nat) (x y : Ve), xs[i]? = some x → xs[i + 1]? = some y → flw y x = true)
theorem ChkI.nil : ChkI [] := ⟨fun i x h => by simp at h, fun i x y h => by simp at h⟩
theorem ChkI.take {xs : List Ve} (h : ChkI xs) (k : Nat) : ChkI (xs.take k) := by
  refine ⟨fun i x hx => ?_, fun i x y hx hy => ?_⟩
  · rw [List.getElem?_take] at hx
    split at hx
    · exact h.1 i x hx
    · cases hx
  · rw [List.getElem?_take] at hx hy
    split at hx
    · split at hy
      · exact h.2 i x y hx hy
      · cases hy
    · cases hx
theorem ChkI.cons {v : Ve} {xs : List Ve} (h : ChkI xs) (hv : bad v = false) (hf : ∀ x, xs[0]? = some x → flw x v = true) : ChkI (v :: xs) := by
  refine ⟨fun i x hx => ?_, fun i x y hx hy => ?_⟩
  · cases i with
    | zero => simp at hx; subst hx; exact hv
    | succ i => rw [List.getElem?_cons_succ] at hx; exact h.1 i x hx
  · rw [List.getElem?_cons_succ] at hy
    cases i with
    | zero => simp at hx; subst hx; exact hf y hy
    | succ i => rw [List.getElem?_cons_succ] at hx; exact h.2 i x y hx hy
/-- The newest version may be pending. -/
theorem ChkI.pend {v : Ve} {xs : List Ve} (h : ChkI (v :: xs)) : ChkI ((0, v.2) :: xs) := by
  refine ⟨fun i x hx => ?_, fun i x y hx hy => ?_⟩
  · cases i with
    | zero => simp at hx; subst hx; exact h.1 0 v rfl
    | succ i => exact h.1 (i + 1) x hx
  · cases i with
    | zero =>
      simp at hx; subst hx
      have := flw_iff.1 (h.2 0 v y rfl hy)
      exact flw_iff.2 ⟨this.1, .inl rfl⟩
    | succ i => exact h.2 (i + 1) x y hx hy
/-- Stamps descend. -/
theorem ChkI.desc {xs : List Ve} (h : ChkI xs) : ∀ (d i : Nat) (x y : Ve), xs[i]? = some x → xs[i + d + 1]? = some y → y.1 ≠ 0 ∧ (x.1 = 0 ∨ y.1 < x.1)
  | 0, i, x, y, hx, hy => flw_iff.1 (h.2 i x y hx hy)
  | d + 1, i, x, y, hx, hy => by
    have hl := (List.getElem?_eq_some_iff.1 hy).1
    have hz : xs[i + d + 1]? = some xs[i + d + 1] := List.getElem?_eq_getElem (by omega)
    have h1 := h.desc d i x _ hx hz
    have h2 := flw_iff.1 (h.2 (i + d + 1) _ y hz (by rw [← hy]; congr 1))
    omega
/-- What a time sees never goes back as the time goes on. -/
theorem vis_grows {xs : List Ve} (h : ChkI xs) {a b : Nat} (hab : a ≤ b) : ((vis a xs).2 = true → (vis b xs).2 = true ∧ (vis a xs).1.1 ≤ (vis b xs).1.1) ∧ ((vis b xs).2 = true → (vis b xs).1.1 ≤ b) := by
  have h1 := fnd_mono hab xs
  have h2 := fnd_le a xs
  by_cases hb : fnd b xs = xs.length
  · have e1 := vis_no hb
    have e2 := vis_no (show fnd a xs = xs.length by omega)
    rw [e1, e2]; simp
  · have hl := fnd_le b xs
    have hx : xs[fnd b xs]? = some xs[fnd b xs] := List.getElem?_eq_getElem (by omega)
    have e1 := vis_yes hx
    have r1 := rch_iff.1 (fnd_at b xs _ hx)
    rw [e1]
    refine ⟨fun ha => ⟨rfl, ?_⟩, fun _ => r1.2⟩
    by_cases hae : fnd a xs = xs.length
    · rw [vis_no hae] at ha; cases ha
    · have hy : xs[fnd a xs]? = some xs[fnd a xs] := List.getElem?_eq_getElem (by omega)
      have e2 := vis_yes hy
      rw [e2]
      rcases Nat.lt_or_ge (fnd b xs) (fnd a xs) with hlt | hge
      · have h3 := h.desc (fnd a xs - fnd b xs - 1) (fnd b xs) _ xs[fnd a xs] hx (by rw [← hy]; congr 1; omega)
        show xs[fnd a xs].1 ≤ xs[fnd b xs].1
        omega
      · have h3 : fnd a xs = fnd b xs := by omega
        have h4 : xs[fnd a xs] = xs[fnd b xs] := Option.some.inj (by rw [← hy, ← hx, h3])
        show xs[fnd a xs].1 ≤ xs[fnd b xs].1
        rw [h4]; exact Nat.le_refl _
/-- The greatest stamp of a beginning that t has reached is that of the version which t sees. -/
theorem best_take {xs : List Ve} (h : ChkI xs) {t j : Nat} {x : Ve} (hx : xs[j]? = some x) :
    (vis t (xs.take (j + 1))).1 = if x.1 ≤ t ∧ (vis t (xs.take j)).1.1 < x.1 then x else (vis t (xs.take j)).1 := by
  obtain ⟨hj, _⟩ := List.getElem?_eq_some_iff.1 hx
  by_cases hb : fnd t (xs.take j) = (xs.take j).length
  · have e1 := vis_no hb
    rw [List.length_take] at hb
    have hbj : fnd t (xs.take j) = j := by omega
    have hbef : ∀ i y, i < j → (xs.take (j + 1))[i]? = some y → rch t y = false := fun i y hi hy => by
      rw [List.getElem?_take, if_pos (by omega)] at hy
      exact fnd_before t (xs.take j) i y (by omega) (by rw [List.getElem?_take, if_pos hi]; exact hy)
    rw [e1]
    by_cases hr : rch t x = true
    · have hr2 := rch_iff.1 hr
      rw [if_pos ⟨hr2.2, by show (0:Nat) < x.1; omega⟩]
      have hf : fnd t (xs.take (j + 1)) = j := fnd_unique hbef (by rw [List.length_take]; omega) (fun y hy => by
        rw [List.getElem?_take, if_pos (by omega), hx] at hy; cases hy; exact hr)
      rw [vis_yes (x := x) (by rw [hf, List.getElem?_take, if_pos (by omega)]; exact hx)]
    · have hr3 : rch t x = false := by simpa using hr
      have hr2 := rch_no.1 hr3
      rw [if_neg (by rintro ⟨h1, h2⟩; have h3 : (0:Nat) < x.1 := h2; have := hr2 (by omega); omega)]
      have hf : fnd t (xs.take (j + 1)) = j + 1 := fnd_unique (fun i y hi hy => by
        by_cases hij : i = j
        · subst hij; rw [List.getElem?_take, if_pos (by omega), hx] at hy; cases hy; exact hr3
        · exact hbef i y (by omega) hy) (by rw [List.length_take]; omega) (fun y hy => by
        rw [List.getElem?_take, if_neg (by omega)] at hy; cases hy)
      rw [vis_no (by rw [hf, List.length_take]; omega)]
  · have hl := fnd_le t (xs.take j)
    have hlen : (xs.take j).length = j := by rw [List.length_take]; omega
    have hp : (xs.take j)[fnd t (xs.take j)]? = some (xs.take j)[fnd t (xs.take j)] := List.getElem?_eq_getElem (by omega)
    generalize hpv : (xs.take j)[fnd t (xs.take j)] = y at hp
    have e1 := vis_yes hp
    have r1 := rch_iff.1 (fnd_at t _ _ hp)
    have e3 : (xs.take (j + 1)).take j = xs.take j := by rw [List.take_take]; congr 1; omega
    have hf : fnd t (xs.take (j + 1)) = fnd t (xs.take j) := by
      rw [← e3]; symm
      refine fnd_take ?_
      left
      rcases Nat.lt_or_ge (fnd t (xs.take (j + 1))) j with hlt | hge
      · exact hlt
      · exfalso
        have hb2 := fnd_before t (xs.take (j + 1)) (fnd t (xs.take j)) y (by omega) (by
          rw [← e3, List.getElem?_take] at hp
          split at hp
          · rw [e3] at hp; exact hp
          · cases hp)
        rw [fnd_at t _ _ hp] at hb2; cases hb2
    have hp2 : xs[fnd t (xs.take j)]? = some y := by
      rw [List.getElem?_take] at hp
      split at hp
      · exact hp
      · cases hp
    have e2 : vis t (xs.take (j + 1)) = (y, true) := vis_yes (by rw [hf, List.getElem?_take, if_pos (by omega)]; exact hp2)
    rw [e1, e2]
    have h3 := h.desc (j - fnd t (xs.take j) - 1) (fnd t (xs.take j)) y x hp2 (by rw [← hx]; congr 1; omega)
    rw [if_neg (by rintro ⟨_, h5⟩; have h6 : y.1 < x.1 := h5; omega)]
theorem vis_sees (t : Nat) (l : List Ve) : (vis t l).2 = decide (0 < (vis t l).1.1) := by
  by_cases h : fnd t l = l.length
  · rw [vis_no h]; rfl
  · have hl := fnd_le t l
    have hx : l[fnd t l]? = some l[fnd t l] := List.getElem?_eq_getElem (by omega)
    have r1 := rch_iff.1 (fnd_at t l _ hx)
    rw [vis_yes hx]
    show true = decide (0 < l[fnd t l].1)
    rw [eq_comm, decide_eq_true_iff]; omega
end Go.Proofs.Ytpamjbjgckaedaa.Plain
