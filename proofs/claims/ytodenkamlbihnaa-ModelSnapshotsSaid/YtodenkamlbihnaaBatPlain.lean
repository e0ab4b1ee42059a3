/-
  Batches as plain data: lists of entries and of writes, what performing writes does, the normal form. Condition: none; no program is spoken of.
-/
import Derived.Test.YtodenkamlbihnaaLkPlain
namespace Go.Proofs.Ytodenkamlbihnaa.PlainE
section
open Go Plain
set_option linter.unusedVariables false

/-- A write: its key, its value, whether it deletes. -/
abbrev Wri := ByteArray × ByteArray × Bool
/-- Are two keys the same, as the program compares? -/
def eqk (a b : ByteArray) : Bool := a.toList == b.toList
theorem eqk_iff {a b : ByteArray} : eqk a b = true ↔ a = b := by
  unfold eqk; rw [beq_iff_eq]; exact ⟨fun h => toList_inj h, fun h => by rw [h]⟩
theorem eqk_self (a : ByteArray) : eqk a a = true := eqk_iff.2 rfl
theorem eqk_ne {a b : ByteArray} : eqk a b = false ↔ a ≠ b := by
  constructor
  · intro h e; rw [eqk_iff.2 e] at h; cases h
  · intro h; cases e : eqk a b
    · rfl
    · exact absurd (eqk_iff.1 e) h
theorem snoc_ind {α : Type} {p : List α → Prop} (h0 : p []) (h1 : ∀ l a, p l → p (l ++ [a])) (l : List α) : p l := by
  have h : ∀ r : List α, p r.reverse := fun r => by
    induction r with
    | nil => exact h0
    | cons a r ih => rw [List.reverse_cons]; exact h1 _ _ ih
  have := h l.reverse; rwa [List.reverse_reverse] at this
/-- The value of a key. -/
def getL : List Ent → ByteArray → Option ByteArray
  | [], _ => none
  | x :: r, k => if eqk x.1 k = true then some x.2 else getL r k
def dropL (xs : List Ent) (k : ByteArray) : List Ent := xs.filter fun x => !(eqk x.1 k)
def perf (xs : List Ent) (w : Wri) : List Ent := if w.2.2 = true then dropL xs w.1 else putL xs (w.1, w.2.1)
def applyL (xs : List Ent) (b : List Wri) : List Ent := b.foldl perf xs
theorem applyL_append (xs : List Ent) (a b : List Wri) : applyL xs (a ++ b) = applyL (applyL xs a) b := List.foldl_append
theorem applyL_snoc (xs : List Ent) (b : List Wri) (w : Wri) : applyL xs (b ++ [w]) = perf (applyL xs b) w := by rw [applyL_append]; rfl
theorem asc_dropL {xs : List Ent} (h : Asc xs) (k : ByteArray) : Asc (dropL xs k) := asc_filter _ h
theorem asc_perf {xs : List Ent} (h : Asc xs) (w : Wri) : Asc (perf xs w) := by
  unfold perf; split
  · exact asc_dropL h _
  · exact putL_asc _ _ h
theorem asc_applyL : ∀ (b : List Wri) {xs : List Ent}, Asc xs → Asc (applyL xs b)
  | [], _, h => h
  | w :: r, _, h => asc_applyL r (asc_perf h w)
theorem getL_none : ∀ {xs : List Ent} {k : ByteArray}, (∀ y ∈ xs, y.1 ≠ k) → getL xs k = none
  | [], _, _ => rfl
  | x :: r, k, h => by
    rw [getL, if_neg (fun e => h x (by simp) (eqk_iff.1 e))]
    exact getL_none fun y hy => h y (List.mem_cons_of_mem _ hy)
theorem getL_some : ∀ {xs : List Ent} {k v : ByteArray}, getL xs k = some v → (k, v) ∈ xs
  | [], _, _, h => by cases h
  | x :: r, k, v, h => by
    rw [getL] at h
    split at h
    · rename_i e; have e2 := eqk_iff.1 e; cases h; rw [← e2]; exact List.mem_cons_self
    · exact List.mem_cons_of_mem _ (getL_some h)
theorem ne_of_ltB {a b : ByteArray} (h : ltB a.toList b.toList = true) : b ≠ a := fun e => by rw [e, ltB_self] at h; cases h
theorem getL_tail {x : Ent} {r : List Ent} (h : Asc (x :: r)) : getL r x.1 = none := getL_none fun y hy => ne_of_ltB (asc_head h y hy)
/-- Ascending lists with the same values are the same. -/
theorem getL_ext : ∀ {xs ys : List Ent}, Asc xs → Asc ys → (∀ k, getL xs k = getL ys k) → xs = ys
  | [], [], _, _, _ => rfl
  | [], y :: s, _, _, h => by have := h y.1; rw [getL, getL, if_pos (eqk_self _)] at this; cases this
  | x :: r, [], _, _, h => by have := h x.1; rw [getL, getL, if_pos (eqk_self _)] at this; cases this
  | x :: r, y :: s, hx, hy, h => by
    have low : ∀ {a : Ent} {t : List Ent} {k : ByteArray}, Asc (a :: t) → ltB k.toList a.1.toList = true → getL (a :: t) k = none := fun {a t k} ha hk => getL_none fun z hz => by
      rcases List.mem_cons.1 hz with rfl | hz
      · exact ne_of_ltB hk
      · exact ne_of_ltB (ltB_trans _ _ _ hk (asc_head ha z hz))
    have e1 : x.1 = y.1 := by
      cases h1 : ltB x.1.toList y.1.toList
      · cases h2 : ltB y.1.toList x.1.toList
        · exact toList_inj (ltB_tri _ _ h1 h2)
        · have := h y.1
          rw [low hx h2, getL, if_pos (eqk_self _)] at this; cases this
      · have := h x.1
        rw [low hy h1, getL, if_pos (eqk_self _)] at this; cases this
    have e2 : x.2 = y.2 := by
      have := h x.1
      rw [getL, if_pos (eqk_self _), getL, if_pos (eqk_iff.2 e1.symm)] at this
      exact Option.some.inj this
    have e3 : r = s := getL_ext (asc_cons hx) (asc_cons hy) fun k => by
      by_cases hk : x.1 = k
      · rw [← hk, getL_tail hx, e1, getL_tail hy]
      · have := h k
        rwa [getL, if_neg (fun e => hk (eqk_iff.1 e)), getL, if_neg (fun e => hk (e1.trans (eqk_iff.1 e)))] at this
    rw [e3, Prod.ext e1 e2]
theorem getL_dropL : ∀ (xs : List Ent) (a k : ByteArray), getL (dropL xs a) k = if a = k then none else getL xs k
  | [], a, k => by unfold dropL; rw [List.filter_nil]; split <;> rfl
  | x :: r, a, k => by
    have ih := getL_dropL r a k
    unfold dropL at ih ⊢
    rw [List.filter_cons]
    by_cases hx : x.1 = a
    · rw [if_neg (by rw [eqk_iff.2 hx]; decide), ih]
      by_cases hk : a = k
      · rw [if_pos hk, if_pos hk]
      · rw [if_neg hk, if_neg hk, getL, if_neg (fun e => hk (hx.symm.trans (eqk_iff.1 e)))]
    · rw [if_pos (by rw [eqk_ne.2 hx]; rfl), getL, ih]
      by_cases hk : a = k
      · rw [if_pos hk, if_pos hk]
        rw [if_neg (fun e => hx ((eqk_iff.1 e).trans hk.symm))]
      · rw [if_neg hk, if_neg hk, getL]
theorem ins_getL (e : Ent) (k : ByteArray) : ∀ {xs : List Ent}, Asc xs → getL (ins e false xs) k = if e.1 = k then some e.2 else getL xs k
  | [], _ => by
    show (if eqk e.1 k = true then some e.2 else none) = if e.1 = k then some e.2 else none
    by_cases h : e.1 = k
    · rw [if_pos (eqk_iff.2 h), if_pos h]
    · rw [if_neg (fun x => h (eqk_iff.1 x)), if_neg h]
  | x :: r, ha => by
    rw [ins]
    cases hg : geE x e
    · have hlt : ltB x.1.toList e.1.toList = true := by unfold geE at hg; simpa using hg
      have hne : ¬ x.1 = e.1 := fun h => ne_of_ltB hlt h.symm
      have hn : neE x e = true := by
        show (!(eqk x.1 e.1)) = true
        rw [eqk_ne.2 hne]; rfl
      simp only [hn, Bool.not_false, Bool.and_false, Bool.false_eq_true, if_false, if_true, List.nil_append, Bool.or_false, List.singleton_append]
      rw [getL, ins_getL e k (asc_cons ha), getL]
      by_cases hk : e.1 = k
      · rw [if_pos hk, if_neg (fun h => hne ((eqk_iff.1 h).trans hk.symm))]
        rw [if_pos hk]
      · rw [if_neg hk, if_neg hk]
    · simp only [Bool.not_false, Bool.and_true, if_true, Bool.or_true, ins_done, List.singleton_append]
      have e1 : (if neE x e = true then [x] else []) ++ r.filter (neE · e) = dropL (x :: r) e.1 := by
        unfold dropL
        rw [List.filter_cons]
        show _ = if neE x e = true then x :: r.filter (fun x => neE x e) else r.filter (fun x => neE x e)
        split <;> rfl
      rw [e1, getL, getL_dropL]
      by_cases hk : e.1 = k
      · rw [if_pos (eqk_iff.2 hk), if_pos hk]
      · rw [if_neg (fun h => hk (eqk_iff.1 h)), if_neg hk, if_neg hk]
theorem getL_putL {xs : List Ent} (h : Asc xs) (e : Ent) (k : ByteArray) : getL (putL xs e) k = if e.1 = k then some e.2 else getL xs k := by rw [putL_ins]; exact ins_getL e k h
/-- What a write leaves. -/
def eff (w : Wri) : Option ByteArray := if w.2.2 = true then none else some w.2.1
theorem getL_perf {xs : List Ent} (h : Asc xs) (w : Wri) (k : ByteArray) : getL (perf xs w) k = if w.1 = k then eff w else getL xs k := by
  unfold perf eff
  by_cases hd : w.2.2 = true
  · rw [if_pos hd, if_pos hd, getL_dropL]
  · rw [if_neg hd, if_neg hd, getL_putL h]
/-- The last write of a key. -/
def lastW : List Wri → ByteArray → Option Wri
  | [], _ => none
  | w :: r, k => match lastW r k with
    | some v => some v
    | none => if eqk w.1 k = true then some w else none
theorem lastW_append : ∀ (a b : List Wri) (k : ByteArray), lastW (a ++ b) k = match lastW b k with | some v => some v | none => lastW a k
  | [], b, k => by show lastW b k = _; cases lastW b k <;> rfl
  | w :: r, b, k => by
    rw [List.cons_append, lastW, lastW_append r b k]
    cases h : lastW b k with
    | some v => rfl
    | none => rw [lastW]
theorem lastW_snoc (a : List Wri) (w : Wri) (k : ByteArray) : lastW (a ++ [w]) k = if w.1 = k then some w else lastW a k := by
  rw [lastW_append]
  show (match (match (none : Option Wri) with | some v => some v | none => if eqk w.1 k = true then some w else none) with | some v => some v | none => lastW a k) = _
  by_cases h : w.1 = k
  · rw [if_pos h]; simp [eqk_iff.2 h]
  · rw [if_neg h]; simp [eqk_ne.2 h]
theorem lastW_key : ∀ {b : List Wri} {k : ByteArray} {w : Wri}, lastW b k = some w → w.1 = k ∧ w ∈ b
  | [], _, _, h => by cases h
  | v :: r, k, w, h => by
    rw [lastW] at h
    cases hr : lastW r k with
    | some u => rw [hr] at h; cases h; exact ⟨(lastW_key hr).1, List.mem_cons_of_mem _ (lastW_key hr).2⟩
    | none =>
      rw [hr] at h
      simp only at h
      split at h
      · rename_i e; cases h; exact ⟨eqk_iff.1 e, List.mem_cons_self⟩
      · cases h
theorem lastW_none : ∀ {b : List Wri} {k : ByteArray}, lastW b k = none ↔ ∀ w ∈ b, w.1 ≠ k
  | [], _ => ⟨fun _ w h => by simp at h, fun _ => rfl⟩
  | v :: r, k => by
    rw [lastW]
    cases hr : lastW r k with
    | some u =>
      refine ⟨fun h => by simp at h, fun h => ?_⟩
      have := lastW_key hr
      exact absurd this.1 (h u (List.mem_cons_of_mem _ this.2))
    | none =>
      have ih := (lastW_none (b := r) (k := k)).1 hr
      simp only
      constructor
      · intro h w hw
        rcases List.mem_cons.1 hw with rfl | hw
        · intro e; rw [if_pos (eqk_iff.2 e)] at h; cases h
        · exact ih w hw
      · intro h; rw [if_neg (fun e => h v List.mem_cons_self (eqk_iff.1 e))]
/-- The value of a key behind a batch. -/
theorem getL_applyL {xs : List Ent} (h : Asc xs) (k : ByteArray) : ∀ b : List Wri, getL (applyL xs b) k = match lastW b k with | some w => eff w | none => getL xs k := by
  refine snoc_ind rfl (fun b w ih => ?_)
  rw [applyL_snoc, getL_perf (asc_applyL b h), lastW_snoc, ih]
  by_cases hk : w.1 = k
  · rw [if_pos hk, if_pos hk]
  · rw [if_neg hk, if_neg hk]
/-- Batches whose last writes are the same do the same. -/
theorem applyL_same {xs : List Ent} (h : Asc xs) {a b : List Wri} (hab : ∀ k, lastW a k = lastW b k) : applyL xs a = applyL xs b :=
  getL_ext (asc_applyL a h) (asc_applyL b h) fun k => by rw [getL_applyL h, getL_applyL h, hab]
theorem applyL_twice {xs : List Ent} (h : Asc xs) (b : List Wri) : applyL (applyL xs b) b = applyL xs b := by
  rw [← applyL_append]
  refine applyL_same h fun k => ?_
  rw [lastW_append]; cases lastW b k <;> rfl
theorem applyL_comm {xs : List Ent} (h : Asc xs) {a b : List Wri} (hd : ∀ v ∈ a, ∀ w ∈ b, v.1 ≠ w.1) : applyL (applyL xs a) b = applyL (applyL xs b) a := by
  rw [← applyL_append, ← applyL_append]
  refine applyL_same h fun k => ?_
  rw [lastW_append, lastW_append]
  cases hb : lastW b k with
  | none => cases ha : lastW a k <;> rfl
  | some w =>
    cases ha : lastW a k with
    | none => rfl
    | some v => exact absurd ((lastW_key ha).1.trans (lastW_key hb).1.symm) (hd v (lastW_key ha).2 w (lastW_key hb).2)

/-! ### The normal form -/
/-- The keys of a batch, in ascending order. -/
def keysB (b : List Wri) : List Ent := b.foldl (fun l w => putL l (w.1, ⟨#[]⟩)) []
theorem keysB_snoc (b : List Wri) (w : Wri) : keysB (b ++ [w]) = putL (keysB b) (w.1, ⟨#[]⟩) := by unfold keysB; rw [List.foldl_append]; rfl
theorem keysB_asc : ∀ b : List Wri, Asc (keysB b) := snoc_ind trivial fun b w ih => by rw [keysB_snoc]; exact putL_asc _ _ ih
theorem keysB_get (b : List Wri) (k : ByteArray) : getL (keysB b) k = (lastW b k).map fun _ => ⟨#[]⟩ := by
  refine snoc_ind (p := fun b => getL (keysB b) k = (lastW b k).map fun _ => ⟨#[]⟩) rfl (fun b w ih => ?_) b
  rw [keysB_snoc, getL_putL (keysB_asc b), lastW_snoc, ih]
  by_cases hk : w.1 = k
  · rw [if_pos hk, if_pos hk]; rfl
  · rw [if_neg hk, if_neg hk]
theorem getL_of_mem : ∀ {xs : List Ent} {x : Ent}, Asc xs → x ∈ xs → getL xs x.1 = some x.2
  | [], _, _, h => by simp at h
  | y :: r, x, ha, h => by
    rcases List.mem_cons.1 h with rfl | h
    · rw [getL, if_pos (eqk_self _)]
    · rw [getL, if_neg (fun e => ne_of_ltB (asc_head ha x h) (eqk_iff.1 e).symm)]
      exact getL_of_mem (asc_cons ha) h
theorem keysB_mem {b : List Wri} {e : Ent} (h : e ∈ keysB b) : ∃ w, lastW b e.1 = some w := by
  have h1 := getL_of_mem (keysB_asc b) h
  rw [keysB_get] at h1
  cases hw : lastW b e.1 with
  | none => rw [hw] at h1; cases h1
  | some w => exact ⟨w, rfl⟩
def normL (b : List Wri) : List Wri := (keysB b).filterMap fun e => lastW b e.1
/-- The keys of a list of writes, ascending. -/
def AscW (b : List Wri) : Prop := ∀ (i : Nat) (v w : Wri), b[i]? = some v → b[i + 1]? = some w → ltB v.1.toList w.1.toList = true
theorem filterMap_keys (b : List Wri) : ∀ (ks : List Ent), (∀ e ∈ ks, ∃ w, lastW b e.1 = some w) → (ks.filterMap fun e => lastW b e.1).map (·.1) = ks.map (·.1)
  | [], _ => rfl
  | e :: r, h => by
    obtain ⟨w, hw⟩ := h e List.mem_cons_self
    rw [List.filterMap_cons, hw]
    show w.1 :: _ = e.1 :: _
    rw [(lastW_key hw).1, ← filterMap_keys b r fun x hx => h x (List.mem_cons_of_mem _ hx)]
theorem normL_keys (b : List Wri) : (normL b).map (·.1) = (keysB b).map (·.1) := filterMap_keys b _ fun _ h => keysB_mem h
theorem normL_length (b : List Wri) : (normL b).length = (keysB b).length := by
  have := congrArg List.length (normL_keys b); simpa using this
theorem asc_nx : ∀ {xs : List Ent}, Asc xs → ∀ (i : Nat) (x y : Ent), xs[i]? = some x → xs[i + 1]? = some y → ltB x.1.toList y.1.toList = true
  | [], _, i, _, _, h, _ => by simp at h
  | [a], _, i, _, _, _, h => by simp at h
  | a :: b :: r, h, 0, x, y, hx, hy => by simp at hx hy; subst hx hy; exact h.1
  | a :: b :: r, h, i + 1, x, y, hx, hy => asc_nx h.2 i x y (by simpa using hx) (by simpa using hy)
theorem normL_asc (b : List Wri) : AscW (normL b) := fun i v w hv hw => by
  have hk := normL_keys b
  have e1 : ((normL b).map (·.1))[i]? = some v.1 := by rw [List.getElem?_map, hv]; rfl
  have e2 : ((normL b).map (·.1))[i + 1]? = some w.1 := by rw [List.getElem?_map, hw]; rfl
  rw [hk, List.getElem?_map] at e1 e2
  obtain ⟨x, hx, ex⟩ := Option.map_eq_some_iff.1 e1
  obtain ⟨y, hy, ey⟩ := Option.map_eq_some_iff.1 e2
  rw [← ex, ← ey]
  exact asc_nx (keysB_asc b) i x y hx hy
theorem normL_mem {b : List Wri} {w : Wri} : w ∈ normL b ↔ lastW b w.1 = some w := by
  unfold normL
  rw [List.mem_filterMap]
  constructor
  · rintro ⟨e, -, h⟩; rw [(lastW_key h).1]; exact h
  · intro h
    refine ⟨(w.1, ⟨#[]⟩), ?_, h⟩
    have := keysB_get b w.1
    rw [h] at this
    exact getL_some this
theorem ascW_tail {v : Wri} {r : List Wri} (h : AscW (v :: r)) : AscW r := fun i a b ha hb => h (i + 1) a b (by simpa using ha) (by simpa using hb)
theorem ascW_head : ∀ {v : Wri} {r : List Wri}, AscW (v :: r) → ∀ w ∈ r, ltB v.1.toList w.1.toList = true
  | v, [], _, w, hw => by simp at hw
  | v, u :: r, h, w, hw => by
    have h0 := h 0 v u rfl rfl
    rcases List.mem_cons.1 hw with rfl | hw
    · exact h0
    · exact ltB_trans _ _ _ h0 (ascW_head (ascW_tail h) w hw)
/-- In a list with ascending keys each write is the last one of its key. -/
theorem lastW_ascW : ∀ {b : List Wri}, AscW b → ∀ {w : Wri}, w ∈ b → lastW b w.1 = some w
  | [], _, w, h => by simp at h
  | v :: r, ha, w, h => by
    rw [lastW]
    rcases List.mem_cons.1 h with rfl | h
    · have : lastW r w.1 = none := lastW_none.2 fun u hu => ne_of_ltB (ascW_head ha u hu)
      rw [this]; simp only; rw [if_pos (eqk_self _)]
    · rw [lastW_ascW (ascW_tail ha) h]
theorem lastW_normL (b : List Wri) (k : ByteArray) : lastW (normL b) k = lastW b k := by
  cases h : lastW b k with
  | none =>
    refine lastW_none.2 fun w hw e => ?_
    have := normL_mem.1 hw
    rw [e, h] at this; cases this
  | some w =>
    have e := (lastW_key h).1
    have hm : w ∈ normL b := normL_mem.2 (by rw [e]; exact h)
    have := lastW_ascW (normL_asc b) hm
    rwa [e] at this
theorem applyL_normL {xs : List Ent} (h : Asc xs) (b : List Wri) : applyL xs (normL b) = applyL xs b := applyL_same h (lastW_normL b)
theorem keysB_normL (b : List Wri) : keysB (normL b) = keysB b := getL_ext (keysB_asc _) (keysB_asc _) fun k => by rw [keysB_get, keysB_get, lastW_normL]
theorem normL_normL (b : List Wri) : normL (normL b) = normL b := by
  show (keysB (normL b)).filterMap _ = (keysB b).filterMap _
  rw [keysB_normL]
  congr 1
  funext e
  exact lastW_normL b e.1
/-- How many different keys there are. -/
def diff : List Wri → Nat
  | [] => 0
  | w :: r => diff r + (if (lastW r w.1).isSome then 0 else 1)
theorem getL_isSome {xs : List Ent} {k : ByteArray} (h : getL xs k = none) : ∀ y ∈ xs, eqk y.1 k = false := fun y hy => by
  cases e : eqk y.1 k
  · rfl
  · exfalso
    revert h hy
    induction xs with
    | nil => intro _ hy; simp at hy
    | cons x r ih =>
      intro h hy
      rw [getL] at h
      split at h
      · cases h
      · rename_i hx
        rcases List.mem_cons.1 hy with rfl | hy
        · exact hx e
        · exact ih h hy
theorem ins_len_new (e : Ent) : ∀ {xs : List Ent}, (∀ y ∈ xs, eqk y.1 e.1 = false) → (ins e false xs).length = xs.length + 1
  | [], _ => rfl
  | x :: r, h => by
    rw [ins]
    have hn : neE x e = true := by
      show (!(eqk x.1 e.1)) = true
      rw [h x List.mem_cons_self]; rfl
    cases hg : geE x e
    · simp only [hn, Bool.not_false, Bool.and_false, Bool.false_eq_true, if_false, if_true, List.nil_append, Bool.or_false, List.singleton_append, List.length_cons]
      rw [ins_len_new e fun y hy => h y (List.mem_cons_of_mem _ hy)]
    · simp only [hn, Bool.not_false, Bool.and_true, if_true, Bool.or_true, ins_done, List.singleton_append, List.length_cons]
      have : r.filter (neE · e) = r := List.filter_eq_self.2 fun y hy => by
        show (!(eqk y.1 e.1)) = true
        rw [h y (List.mem_cons_of_mem _ hy)]; rfl
      rw [this]
theorem putL_len_new {xs : List Ent} {e : Ent} (h : getL xs e.1 = none) : (putL xs e).length = xs.length + 1 := by rw [putL_ins]; exact ins_len_new e (getL_isSome h)
theorem getL_keys_eq {xs ys : List Ent} (hx : Asc xs) (hy : Asc ys) (h : ∀ k, (getL xs k).isSome = (getL ys k).isSome) : xs.length = ys.length := by
  have he : xs.map (fun x => (x.1, (⟨#[]⟩ : ByteArray))) = ys.map (fun x => (x.1, (⟨#[]⟩ : ByteArray))) := by
    have asc_map : ∀ {zs : List Ent}, Asc zs → Asc (zs.map fun x => (x.1, (⟨#[]⟩ : ByteArray))) := by
      intro zs
      induction zs with
      | nil => intro _; trivial
      | cons a r ih =>
        intro hz
        exact asc_mk (ih (asc_cons hz)) fun y hy => by
          obtain ⟨z, hz2, rfl⟩ := List.mem_map.1 hy
          exact asc_head hz z hz2
    have get_map : ∀ (zs : List Ent) (k : ByteArray), getL (zs.map fun x => (x.1, (⟨#[]⟩ : ByteArray))) k = (getL zs k).map fun _ => ⟨#[]⟩ := by
      intro zs k
      induction zs with
      | nil => rfl
      | cons a r ih =>
        rw [List.map_cons, getL, getL, ih]
        split <;> rfl
    refine getL_ext (asc_map hx) (asc_map hy) fun k => ?_
    rw [get_map, get_map]
    have := h k
    cases h1 : getL xs k <;> cases h2 : getL ys k <;> rw [h1, h2] at this <;> first | rfl | cases this
  have := congrArg List.length he
  simpa using this
theorem putL_len_old {xs : List Ent} (ha : Asc xs) {e : Ent} {v : ByteArray} (h : getL xs e.1 = some v) : (putL xs e).length = xs.length :=
  getL_keys_eq (putL_asc _ _ ha) ha fun k => by
    rw [getL_putL ha]
    by_cases hk : e.1 = k
    · rw [if_pos hk, ← hk, h]; rfl
    · rw [if_neg hk]
/-- The normal form has as many writes as there are different keys: a write counts where its key has not come before. -/
theorem keysB_len_snoc (b : List Wri) (w : Wri) : (keysB (b ++ [w])).length = (keysB b).length + (if (lastW b w.1).isSome = true then 0 else 1) := by
  rw [keysB_snoc]
  cases h : lastW b w.1 with
  | none => rw [putL_len_new (by rw [keysB_get, h]; rfl)]; rfl
  | some v => rw [putL_len_old (keysB_asc b) (v := ⟨#[]⟩) (by rw [keysB_get, h]; rfl)]; rfl
end
end Go.Proofs.Ytodenkamlbihnaa.PlainE
