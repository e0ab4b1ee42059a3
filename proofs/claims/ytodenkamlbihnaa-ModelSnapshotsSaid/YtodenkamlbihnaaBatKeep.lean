/-
  Batches as plain data: which writes stay when only the last one of each key is kept, that sorting them gives the normal form, and that performing a normal form from the left to the right is one pass over the list. Condition: none; no program is spoken of.
-/
import Derived.Test.YtodenkamlbihnaaBatPlain
namespace Go.Proofs.Ytodenkamlbihnaa.PlainE
section
open Go Plain
set_option linter.unusedVariables false

/-- The place of the last write of a key. -/
def lastIx : List Wri → ByteArray → Option Nat
  | [], _ => none
  | w :: r, k => match lastIx r k with
    | some i => some (i + 1)
    | none => if eqk w.1 k = true then some 0 else none
theorem lastIx_snoc (w : Wri) (k : ByteArray) : ∀ a : List Wri, lastIx (a ++ [w]) k = if w.1 = k then some a.length else lastIx a k
  | [] => by
    show (match (none : Option Nat) with | some i => some (i + 1) | none => if eqk w.1 k = true then some 0 else none) = _
    by_cases h : w.1 = k
    · rw [if_pos h]; simp [eqk_iff.2 h]
    · rw [if_neg h]; simp [eqk_ne.2 h, lastIx]
  | v :: r => by
    rw [List.cons_append, lastIx, lastIx_snoc w k r]
    by_cases h : w.1 = k
    · rw [if_pos h, if_pos h]; rfl
    · rw [if_neg h, if_neg h, lastIx]
theorem lastIx_lt : ∀ {b : List Wri} {k : ByteArray} {i : Nat}, lastIx b k = some i → i < b.length
  | [], _, _, h => by cases h
  | w :: r, k, i, h => by
    rw [lastIx] at h
    cases hr : lastIx r k with
    | some j => rw [hr] at h; cases h; have := lastIx_lt hr; simp; omega
    | none =>
      rw [hr] at h
      simp only at h
      split at h
      · cases h; simp
      · cases h
theorem lastW_ix (k : ByteArray) : ∀ b : List Wri, lastW b k = (lastIx b k).bind fun i => b[i]? := by
  refine snoc_ind rfl (fun b w ih => ?_)
  rw [lastW_snoc, lastIx_snoc]
  by_cases h : w.1 = k
  · rw [if_pos h, if_pos h]; simp
  · rw [if_neg h, if_neg h, ih]
    cases hi : lastIx b k with
    | none => rfl
    | some i =>
      show b[i]? = (b ++ [w])[i]?
      rw [List.getElem?_append_left (lastIx_lt hi)]
theorem lastIx_take_none {b : List Wri} {k : ByteArray} : lastIx b k = none ↔ lastW b k = none := by
  rw [lastW_ix]
  cases h : lastIx b k with
  | none => simp
  | some i => simp [lastIx_lt h]

/-- The writes that are the last ones of their keys, among the first j. -/
def keepTo (b : List Wri) : Nat → List Wri
  | 0 => []
  | j + 1 => keepTo b j ++ (match b[j]? with | some w => if lastIx b w.1 = some j then [w] else [] | none => [])
theorem keep_yes {b : List Wri} {j : Nat} {w : Wri} (hw : b[j]? = some w) (h : lastIx b w.1 = some j) : keepTo b (j + 1) = keepTo b j ++ [w] := by rw [keepTo, hw]; simp only; rw [if_pos h]
theorem keep_no {b : List Wri} {j : Nat} {w : Wri} (hw : b[j]? = some w) (h : lastIx b w.1 ≠ some j) : keepTo b (j + 1) = keepTo b j := by rw [keepTo, hw]; simp only; rw [if_neg h, List.append_nil]
theorem keep_length (b : List Wri) : ∀ j, (keepTo b j).length ≤ j
  | 0 => Nat.le_refl _
  | j + 1 => by
    have := keep_length b j
    rw [keepTo, List.length_append]
    split
    · split <;> simp <;> omega
    · simp; omega
theorem keep_mem {b : List Wri} {w : Wri} : ∀ {j : Nat}, w ∈ keepTo b j ↔ ∃ i, i < j ∧ b[i]? = some w ∧ lastIx b w.1 = some i
  | 0 => by constructor
            · intro h; simp [keepTo] at h
            · rintro ⟨i, h, _⟩; omega
  | j + 1 => by
    rw [keepTo, List.mem_append, keep_mem (j := j)]
    constructor
    · rintro (⟨i, h1, h2, h3⟩ | h)
      · exact ⟨i, by omega, h2, h3⟩
      · split at h
        · rename_i v hv
          split at h
          · rename_i hl
            obtain rfl : w = v := by simpa using h
            exact ⟨j, by omega, hv, hl⟩
          · simp at h
        · simp at h
    · rintro ⟨i, h1, h2, h3⟩
      by_cases hi : i = j
      · subst hi
        right
        rw [h2]; simp only; rw [if_pos h3]; simp
      · exact .inl ⟨i, by omega, h2, h3⟩
theorem keep_nodup (b : List Wri) : ∀ j, ((keepTo b j).map (·.1)).Nodup
  | 0 => by simp [keepTo]
  | j + 1 => by
    have ih := keep_nodup b j
    rw [keepTo]
    split
    · rename_i w hw
      split
      · rename_i hl
        rw [List.map_append, List.nodup_append]
        refine ⟨ih, by simp, fun a ha c hc => ?_⟩
        obtain ⟨v, hv, rfl⟩ := List.mem_map.1 ha
        obtain rfl : c = w.1 := by simpa using hc
        intro e
        obtain ⟨i, h1, _, h3⟩ := keep_mem.1 hv
        rw [e, hl] at h3
        cases h3; omega
      · rw [List.append_nil]; exact ih
    · rw [List.append_nil]; exact ih
theorem keep_all {b : List Wri} {w : Wri} : w ∈ keepTo b b.length ↔ lastW b w.1 = some w := by
  rw [keep_mem, lastW_ix]
  constructor
  · rintro ⟨i, _, h2, h3⟩; rw [h3]; exact h2
  · intro h
    cases hi : lastIx b w.1 with
    | none => rw [hi] at h; cases h
    | some i => rw [hi] at h; exact ⟨i, lastIx_lt hi, h, rfl⟩
/-- Ascending lists with the same writes are the same. -/
theorem ascW_ext : ∀ {xs ys : List Wri}, AscW xs → AscW ys → (∀ w, w ∈ xs ↔ w ∈ ys) → xs = ys
  | [], [], _, _, _ => rfl
  | [], y :: s, _, _, h => by have := (h y).2 (by simp); simp at this
  | x :: r, [], _, _, h => by have := (h x).1 (by simp); simp at this
  | x :: r, y :: s, hx, hy, h => by
    have e : x = y := by
      rcases List.mem_cons.1 ((h x).1 (by simp)) with e | h1
      · exact e
      · rcases List.mem_cons.1 ((h y).2 (by simp)) with e | h2
        · exact e.symm
        · have a := ascW_head hy x h1
          have c := ascW_head hx y h2
          rw [ltB_asymm _ _ a] at c; cases c
    subst e
    have irr : ∀ {r : List Wri}, AscW (x :: r) → x ∉ r := fun ha hm => by have := ascW_head ha x hm; rw [ltB_self] at this; cases this
    rw [ascW_ext (ascW_tail hx) (ascW_tail hy) fun w => ⟨fun hw => by
      rcases List.mem_cons.1 ((h w).1 (List.mem_cons_of_mem _ hw)) with rfl | h1
      · exact absurd hw (irr hx)
      · exact h1, fun hw => by
      rcases List.mem_cons.1 ((h w).2 (List.mem_cons_of_mem _ hw)) with rfl | h1
      · exact absurd hw (irr hy)
      · exact h1⟩]
/-- What is sorted out of the last writes is the normal form. -/
theorem sorted_norm {b l : List Wri} (hp : l.Perm (keepTo b b.length)) (hs : ∀ (i j : Nat) (v w : Wri), i < j → l[i]? = some v → l[j]? = some w → ltB w.1.toList v.1.toList = false) : l = normL b := by
  have hn : (l.map (·.1)).Nodup := (hp.map (·.1)).nodup_iff.2 (keep_nodup b _)
  refine ascW_ext (fun i v w hv hw => ?_) (normL_asc b) fun w => by rw [hp.mem_iff, keep_all, normL_mem]
  have h1 := hs i (i + 1) v w (by omega) hv hw
  cases h2 : ltB v.1.toList w.1.toList
  · exfalso
    have e : v.1 = w.1 := toList_inj (ltB_tri _ _ h2 h1)
    obtain ⟨li, ei⟩ := List.getElem?_eq_some_iff.1 hv
    obtain ⟨lj, ej⟩ := List.getElem?_eq_some_iff.1 hw
    have h3 := List.pairwise_iff_getElem.1 hn i (i + 1) (by simpa using li) (by simpa using lj) (by omega)
    rw [List.getElem_map, List.getElem_map, ei, ej] at h3
    exact h3 e
  · rfl

/-! ### One pass -/
/-- How many entries have a lesser key. -/
def cntE (k : ByteArray) (xs : List Ent) : Nat := xs.countP fun x => ltB x.1.toList k.toList
def inE (k : ByteArray) (xs : List Ent) : Bool := match xs[cntE k xs]? with | some x => eqk x.1 k | none => false
theorem cntE_le (k : ByteArray) (xs : List Ent) : cntE k xs ≤ xs.length := List.countP_le_length
theorem cntE_yes {x : Ent} {k : ByteArray} {r : List Ent} (h : ltB x.1.toList k.toList = true) : cntE k (x :: r) = cntE k r + 1 := by unfold cntE; exact List.countP_cons_of_pos h
theorem cntE_no {x : Ent} {k : ByteArray} {r : List Ent} (ha : Asc (x :: r)) (h : ltB x.1.toList k.toList = false) : cntE k (x :: r) = 0 := by
  unfold cntE
  rw [List.countP_eq_zero]
  intro y hy
  rcases List.mem_cons.1 hy with rfl | hy
  · simp [h]
  · have h1 := asc_head ha y hy
    cases h2 : ltB y.1.toList k.toList
    · simp
    · rw [ltB_trans _ _ _ h1 h2] at h; cases h
/-- In an ascending list an entry's key is lesser exactly if it stands ahead of that many. -/
theorem ltE_at : ∀ (xs : List Ent), Asc xs → ∀ (k : ByteArray) (i : Nat) (x : Ent), xs[i]? = some x → ltB x.1.toList k.toList = decide (i < cntE k xs)
  | [], _, k, i, x, h => by simp at h
  | y :: r, ha, k, i, x, h => by
    cases hy : ltB y.1.toList k.toList
    · rw [cntE_no ha hy]
      cases i with
      | zero => simp at h; subst h; rw [hy]; rfl
      | succ i =>
        have hm : x ∈ r := List.mem_of_getElem? (by simpa using h)
        have h1 := asc_head ha x hm
        cases h2 : ltB x.1.toList k.toList
        · simp
        · rw [ltB_trans _ _ _ h1 h2] at hy; cases hy
    · rw [cntE_yes hy]
      cases i with
      | zero => simp at h; subst h; rw [hy]; simp
      | succ i =>
        rw [ltE_at r (asc_cons ha) k i x (by simpa using h)]
        simp
theorem ltE_take {xs : List Ent} (ha : Asc xs) {k : ByteArray} : ∀ x ∈ xs.take (cntE k xs), ltB x.1.toList k.toList = true := fun x hx => by
  obtain ⟨i, hi, rfl⟩ := List.getElem_of_mem hx
  rw [List.length_take] at hi
  have := ltE_at xs ha k i _ (List.getElem?_eq_getElem (by omega))
  rw [List.getElem_take, this]; simp; omega
def oneE (w : Wri) : List Ent := if w.2.2 = true then [] else [(w.1, w.2.1)]
theorem ins_low (e : Ent) : ∀ (xs l : List Ent), (∀ x ∈ xs, ltB x.1.toList e.1.toList = true) → ins e false (xs ++ l) = xs ++ ins e false l
  | [], _, _ => rfl
  | x :: r, l, h => by
    have hx := h x (by simp)
    have hg : geE x e = false := by unfold geE; rw [hx]; rfl
    have hn : neE x e = true := by
      show (!(eqk x.1 e.1)) = true
      rw [eqk_ne.2 (fun q => ne_of_ltB hx q.symm)]; rfl
    rw [List.cons_append, ins, hg, hn]
    simp only [Bool.not_false, Bool.and_false, Bool.false_eq_true, if_false, if_true, List.nil_append, Bool.or_false, List.cons_append]
    rw [ins_low e r l fun y hy => h y (List.mem_cons_of_mem _ hy)]
theorem dropL_low (k : ByteArray) (xs l : List Ent) (h : ∀ x ∈ xs, ltB x.1.toList k.toList = true) : dropL (xs ++ l) k = xs ++ dropL l k := by
  unfold dropL
  rw [List.filter_append, List.filter_eq_self.2 fun x hx => by rw [eqk_ne.2 (fun q => ne_of_ltB (h x hx) q.symm)]; rfl]
theorem perf_low (w : Wri) (xs l : List Ent) (h : ∀ x ∈ xs, ltB x.1.toList w.1.toList = true) : perf (xs ++ l) w = xs ++ perf l w := by
  unfold perf
  split
  · exact dropL_low _ _ _ h
  · rw [putL_ins, putL_ins]; exact ins_low _ xs l h
theorem applyL_low : ∀ (ws : List Wri) (xs l : List Ent), (∀ x ∈ xs, ∀ w ∈ ws, ltB x.1.toList w.1.toList = true) → applyL (xs ++ l) ws = xs ++ applyL l ws
  | [], _, _, _ => rfl
  | w :: r, xs, l, h => by
    show applyL (perf (xs ++ l) w) r = xs ++ applyL (perf l w) r
    rw [perf_low w xs l fun x hx => h x hx w (by simp), applyL_low r xs _ fun x hx v hv => h x hx v (List.mem_cons_of_mem _ hv)]
theorem ins_true_self {e : Ent} {r : List Ent} (h : ∀ y ∈ r, ltB e.1.toList y.1.toList = true) : r.filter (neE · e) = r := List.filter_eq_self.2 fun y hy => by
  show (!(eqk y.1 e.1)) = true
  rw [eqk_ne.2 (ne_of_ltB (h y hy))]; rfl
/-- A write in an ascending list: what is below it stays, then itself, then what is above. -/
theorem perf_split {l : List Ent} (ha : Asc l) (w : Wri) : perf l w = l.take (cntE w.1 l) ++ (oneE w ++ l.drop (cntE w.1 l + (if inE w.1 l = true then 1 else 0))) := by
  have hlow := ltE_take ha (k := w.1)
  obtain ⟨q, hq⟩ : ∃ q, cntE w.1 l = q := ⟨_, rfl⟩
  have h0 : perf l w = l.take q ++ perf (l.drop q) w := by
    rw [← perf_low w _ _ (by rw [← hq]; exact hlow), List.take_append_drop]
  rw [h0, hq]
  congr 1
  unfold inE
  rw [hq]
  cases hd : l.drop q with
  | nil =>
    have hl : l.length ≤ q := by have := congrArg List.length hd; simp at this; omega
    rw [List.getElem?_eq_none hl]
    simp only [Bool.false_eq_true, if_false, Nat.add_zero]
    rw [hd]
    unfold perf oneE
    split
    · rfl
    · rw [putL_ins]; rfl
  | cons x r =>
    have hx : l[q]? = some x := by have := congrArg (fun z : List Ent => z[0]?) hd; simpa using this
    have hge : ltB x.1.toList w.1.toList = false := by rw [ltE_at l ha w.1 q x hx, hq]; exact decide_eq_false (Nat.lt_irrefl _)
    have hasc : Asc (x :: r) := by
      rw [← hd]
      have : ∀ (n : Nat) {z : List Ent}, Asc z → Asc (z.drop n) := fun n => by
        induction n with
        | zero => intro z h; simpa using h
        | succ n ih => intro z h; cases z with
          | nil => simpa using h
          | cons a t => simpa using ih (asc_cons h)
      exact this q ha
    rw [hx]
    simp only
    by_cases he : x.1 = w.1
    · rw [if_pos (eqk_iff.2 he)]
      have h1 : l.drop (q + 1) = r := by rw [← List.drop_drop, hd]; rfl
      have hr : ∀ y ∈ r, ltB w.1.toList y.1.toList = true := fun y hy => by rw [← he]; exact asc_head hasc y hy
      rw [h1]
      unfold perf oneE
      split
      · unfold dropL
        rw [List.filter_cons, if_neg (by rw [eqk_iff.2 he]; decide)]
        rw [List.filter_eq_self.2 fun y hy => by rw [eqk_ne.2 (ne_of_ltB (hr y hy))]; rfl]
        rfl
      · rw [putL_ins, ins]
        have hg : geE x (w.1, w.2.1) = true := by unfold geE; rw [hge]; rfl
        have hn : neE x (w.1, w.2.1) = false := by
          show (!(eqk x.1 w.1)) = false
          rw [eqk_iff.2 he]; rfl
        rw [hg, hn]
        simp only [Bool.not_false, Bool.and_true, if_true, Bool.or_true, ins_done, Bool.false_eq_true, if_false, List.nil_append]
        rw [ins_true_self (e := (w.1, w.2.1)) hr]
    · rw [if_neg (fun h => he (eqk_iff.1 h)), Nat.add_zero, hd]
      have hlt : ltB w.1.toList x.1.toList = true := by
        cases h2 : ltB w.1.toList x.1.toList
        · exact absurd (toList_inj (ltB_tri _ _ hge h2)) he
        · rfl
      have hr : ∀ y ∈ x :: r, ltB w.1.toList y.1.toList = true := fun y hy => by
        rcases List.mem_cons.1 hy with rfl | hy
        · exact hlt
        · exact ltB_trans _ _ _ hlt (asc_head hasc y hy)
      unfold perf oneE
      split
      · unfold dropL
        rw [List.filter_eq_self.2 fun y hy => by rw [eqk_ne.2 (ne_of_ltB (hr y hy))]; rfl]
        rfl
      · rw [putL_ins, ins]
        have hg : geE x (w.1, w.2.1) = true := by unfold geE; rw [hge]; rfl
        have hn : neE x (w.1, w.2.1) = true := by
          show (!(eqk x.1 w.1)) = true
          rw [eqk_ne.2 he]; rfl
        rw [hg, hn]
        simp only [Bool.not_false, Bool.and_true, if_true, Bool.or_true, ins_done, List.singleton_append]
        rw [ins_true_self (e := (w.1, w.2.1)) fun y hy => hr y (List.mem_cons_of_mem _ hy)]
theorem asc_drop : ∀ (n : Nat) {z : List Ent}, Asc z → Asc (z.drop n)
  | 0, z, h => by simpa using h
  | n + 1, [], h => by simpa using h
  | n + 1, a :: t, h => by simpa using asc_drop n (asc_cons h)
theorem oneE_mem {w : Wri} {x : Ent} (h : x ∈ oneE w) : x.1 = w.1 := by
  unfold oneE at h
  split at h
  · simp at h
  · obtain rfl : x = _ := by simpa using h
    rfl
/-- One step of the pass. -/
theorem pass_step {l : List Ent} (ha : Asc l) {w : Wri} {r : List Wri} (hw : AscW (w :: r)) :
    applyL l (w :: r) = (l.take (cntE w.1 l) ++ oneE w) ++ applyL (l.drop (cntE w.1 l + (if inE w.1 l = true then 1 else 0))) r := by
  show applyL (perf l w) r = _
  rw [perf_split ha w, ← List.append_assoc, applyL_low]
  intro x hx v hv
  have hv2 := ascW_head hw v hv
  rcases List.mem_append.1 hx with hx | hx
  · exact ltB_trans _ _ _ (ltE_take ha x hx) hv2
  · rw [oneE_mem hx]; exact hv2
end
end Go.Proofs.Ytodenkamlbihnaa.PlainE
