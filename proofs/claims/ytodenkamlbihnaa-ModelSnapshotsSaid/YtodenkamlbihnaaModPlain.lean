/-
  The sequential model as plain data: what the changes of a key say about a time, and that a batch's last writes, one change each, give the state behind it. Condition: none; no program is spoken of.
-/
import Derived.Test.YtodenkamlbihnaaBatRef
namespace Go.Proofs.Ytodenkamlbihnaa.PlainE
open Go Plain Go.Proofs.Ytodenkamlbihnaa
set_option linter.unusedVariables false

/-- A change: its time, the value, whether it deletes. -/
abbrev Chg := Nat × ByteArray × Bool
def AscT (l : List Chg) : Prop := ∀ (i j : Nat) (x y : Chg), i < j → l[i]? = some x → l[j]? = some y → x.1 < y.1
/-- How many changes at the front lie before a time, and how many not behind it. -/
def cntL (t : Nat) : List Chg → Nat
  | [] => 0
  | x :: r => if x.1 < t then cntL t r + 1 else 0
def cntU (t : Nat) : List Chg → Nat
  | [] => 0
  | x :: r => if x.1 ≤ t then cntU t r + 1 else 0
theorem cntL_le (t : Nat) : ∀ l : List Chg, cntL t l ≤ l.length
  | [] => Nat.le_refl _
  | x :: r => by unfold cntL; have := cntL_le t r; split <;> simp <;> omega
theorem cntU_le (t : Nat) : ∀ l : List Chg, cntU t l ≤ l.length
  | [] => Nat.le_refl _
  | x :: r => by unfold cntU; have := cntU_le t r; split <;> simp <;> omega
theorem AscT.tail {x : Chg} {r : List Chg} (h : AscT (x :: r)) : AscT r := fun i j a b hij ha hb => h (i + 1) (j + 1) a b (by omega) (by simpa using ha) (by simpa using hb)
theorem AscT.head {x : Chg} {r : List Chg} (h : AscT (x :: r)) {i : Nat} {y : Chg} (hy : r[i]? = some y) : x.1 < y.1 := h 0 (i + 1) x y (by omega) rfl (by simpa using hy)
theorem cntL_at (t : Nat) : ∀ {l : List Chg}, AscT l → ∀ {i : Nat} {x : Chg}, l[i]? = some x → (x.1 < t ↔ i < cntL t l)
  | [], _, i, x, h => by simp at h
  | y :: r, ha, 0, x, h => by
    obtain rfl : y = x := by simpa using h
    unfold cntL
    split
    · rename_i hh; simp [hh]
    · rename_i hh; simp [hh]
  | y :: r, ha, i + 1, x, h => by
    have h1 : r[i]? = some x := by simpa using h
    have ih := cntL_at t ha.tail h1
    have hl := ha.head h1
    unfold cntL
    split
    · rw [ih]; omega
    · constructor <;> intro h2 <;> omega
theorem cntU_at (t : Nat) {l : List Chg} (ha : AscT l) : cntU t l = if (∃ x, l[cntL t l]? = some x ∧ x.1 = t) then cntL t l + 1 else cntL t l := by
  induction l with
  | nil => simp [cntU, cntL]
  | cons y r ih =>
    unfold cntU cntL
    by_cases h1 : y.1 < t
    · rw [if_pos (by omega), if_pos h1, ih ha.tail]
      simp only [List.getElem?_cons_succ]
      split <;> rfl
    · rw [if_neg h1]
      by_cases h2 : y.1 ≤ t
      · have e : y.1 = t := by omega
        rw [if_pos h2, if_pos ⟨y, rfl, e⟩]
        cases r with
        | nil => rfl
        | cons z s =>
          have := ha.head (i := 0) (y := z) rfl
          unfold cntU
          rw [if_neg (by omega)]
      · rw [if_neg h2, if_neg (by rintro ⟨x, hx, he⟩; simp at hx; subst hx; omega)]
/-- What the changes say at a time. -/
def effC (c : Chg) : Option ByteArray := if c.2.2 = true then none else some c.2.1
def valAt (l : List Chg) (t : Nat) : Option ByteArray := if cntU t l = 0 then none else (l[cntU t l - 1]?).bind effC
theorem valAt_nil (t : Nat) : valAt [] t = none := rfl
theorem cntU_all {t : Nat} : ∀ {l : List Chg}, (∀ x ∈ l, x.1 ≤ t) → cntU t l = l.length
  | [], _ => rfl
  | x :: r, h => by unfold cntU; rw [if_pos (h x (by simp)), cntU_all (fun y hy => h y (by simp [hy]))]; rfl
theorem cntU_snoc {t : Nat} {c : Chg} (hc : t < c.1) : ∀ l : List Chg, cntU t (l ++ [c]) = cntU t l
  | [] => by show cntU t [c] = 0; unfold cntU; rw [if_neg (by omega)]
  | x :: r => by show cntU t (x :: (r ++ [c])) = _; unfold cntU; rw [cntU_snoc hc r]
theorem valAt_old {t : Nat} {c : Chg} (hc : t < c.1) (l : List Chg) : valAt (l ++ [c]) t = valAt l t := by
  unfold valAt
  rw [cntU_snoc hc]
  by_cases h : cntU t l = 0
  · rw [if_pos h, if_pos h]
  · have := cntU_le t l
    rw [if_neg h, if_neg h, List.getElem?_append_left (by omega)]
theorem valAt_new {t : Nat} {c : Chg} (hc : c.1 ≤ t) {l : List Chg} (hl : ∀ x ∈ l, x.1 ≤ t) : valAt (l ++ [c]) t = effC c := by
  have e : cntU t (l ++ [c]) = l.length + 1 := by
    rw [cntU_all (fun x hx => by rcases List.mem_append.1 hx with h | h; exact hl x h; simp at h; subst h; exact hc)]; simp
  unfold valAt
  rw [e, if_neg (by omega)]
  simp
theorem valAt_sat {t T : Nat} {l : List Chg} (hl : ∀ x ∈ l, x.1 ≤ T) (ht : T ≤ t) : valAt l t = valAt l T := by
  unfold valAt
  rw [cntU_all hl, cntU_all (fun x hx => Nat.le_trans (hl x hx) ht)]
theorem AscT.snoc {l : List Chg} (h : AscT l) {c : Chg} (hc : ∀ x ∈ l, x.1 < c.1) : AscT (l ++ [c]) := fun i j x y hij hx hy => by
  by_cases hj : j < l.length
  · rw [List.getElem?_append_left hj] at hy
    rw [List.getElem?_append_left (by omega)] at hx
    exact h i j x y hij hx hy
  · have hj2 : j = l.length := by have := (List.getElem?_eq_some_iff.1 hy).1; simp at this; omega
    subst hj2
    have : y = c := by simpa using hy.symm
    subst this
    rw [List.getElem?_append_left hij] at hx
    exact hc x (List.mem_of_getElem? hx)

/-- The state behind the first t batches. -/
def stateL (bs : List (List Wri)) (t : Nat) : List Ent := (bs.take t).foldl applyL []
theorem asc_fold : ∀ (bs : List (List Wri)) {xs : List Ent}, Asc xs → Asc (bs.foldl applyL xs)
  | [], _, h => h
  | b :: r, _, h => asc_fold r (asc_applyL b h)
theorem stateL_asc (bs : List (List Wri)) (t : Nat) : Asc (stateL bs t) := asc_fold _ trivial
theorem stateL_old {bs : List (List Wri)} {b : List Wri} {t : Nat} (h : t ≤ bs.length) : stateL (bs ++ [b]) t = stateL bs t := by unfold stateL; rw [List.take_append_of_le_length h]
theorem stateL_sat {bs : List (List Wri)} {t : Nat} (h : bs.length ≤ t) : stateL bs t = stateL bs bs.length := by unfold stateL; rw [List.take_of_length_le h, List.take_of_length_le (Nat.le_refl _)]
theorem stateL_new {bs : List (List Wri)} {b : List Wri} {t : Nat} (h : bs.length < t) : stateL (bs ++ [b]) t = applyL (stateL bs bs.length) b := by
  unfold stateL
  rw [List.take_of_length_le (by simp; omega), List.foldl_append, List.take_of_length_le (Nat.le_refl _)]; rfl
theorem stateL_len_le : ∀ {bs : List (List Wri)} {c : Nat}, (∀ b ∈ bs, b.length ≤ c) → ∀ t, (stateL bs t).length ≤ c * bs.length := by
  intro bs c h t
  have key : ∀ (b : List Wri) (xs : List Ent), (applyL xs b).length ≤ xs.length + b.length := by
    intro b
    induction b with
    | nil => intro xs; exact Nat.le_refl _
    | cons w r ih =>
      intro xs
      have h1 := ih (perf xs w)
      have h2 : (perf xs w).length ≤ xs.length + 1 := by
        unfold perf
        split
        · have := List.length_filter_le (fun x => !(eqk x.1 w.1)) xs; unfold dropL; omega
        · exact putL_len _ _
      show (applyL (perf xs w) r).length ≤ _
      simp; omega
  have go : ∀ (l : List (List Wri)) (xs : List Ent), (∀ b ∈ l, b.length ≤ c) → (l.foldl applyL xs).length ≤ xs.length + c * l.length := by
    intro l
    induction l with
    | nil => intro xs _; exact Nat.le_refl _
    | cons b r ih =>
      intro xs hb
      have h1 := ih (applyL xs b) (fun x hx => hb x (by simp [hx]))
      have h2 := key b xs
      have h3 := hb b (by simp)
      have h4 : c * (b :: r).length = c * r.length + c := by rw [List.length_cons, Nat.mul_add, Nat.mul_one]
      show (r.foldl applyL (applyL xs b)).length ≤ _
      omega
  have h1 := go (bs.take t) [] (fun b hb => h b (List.mem_of_mem_take hb))
  have h2 : c * (bs.take t).length ≤ c * bs.length := Nat.mul_le_mul_left _ (by rw [List.length_take]; omega)
  unfold stateL
  simp at h1
  simp only [List.length_take] at h2
  omega

/-- What all changes must satisfy at a number of batches. -/
structure Chs (bs : List (List Wri)) (ch : ByteArray → List Chg) : Prop where
  asc : ∀ k, AscT (ch k)
  le : ∀ k, ∀ x ∈ ch k, x.1 ≤ bs.length
  len : ∀ k, (ch k).length ≤ bs.length
  val : ∀ k t, valAt (ch k) t = getL (stateL bs t) k
theorem Chs.empty : Chs [] (fun _ => []) := ⟨fun _ i j x y _ h _ => by simp at h, fun _ x h => by simp at h, fun _ => Nat.le_refl _, fun k t => by show none = _; unfold stateL; simp [getL]⟩
/-- The changes when the first writes of a normal form have come. -/
def chTo (T : Nat) (ch : ByteArray → List Chg) (ns : List Wri) (k : ByteArray) : List Chg := match lastW ns k with
  | some x => ch k ++ [(T, x.2.1, x.2.2)]
  | none => ch k
theorem chTo_nil (T : Nat) (ch : ByteArray → List Chg) : chTo T ch [] = ch := rfl
theorem chTo_nx {T : Nat} {ch : ByteArray → List Chg} {ns : List Wri} (ha : AscW ns) {i : Nat} {x : Wri} (hx : ns[i]? = some x) :
    chTo T ch (ns.take i) x.1 = ch x.1 ∧ chTo T ch (ns.take (i + 1)) = fun k => if k = x.1 then chTo T ch (ns.take i) x.1 ++ [(T, x.2.1, x.2.2)] else chTo T ch (ns.take i) k := by
  have hn : lastW (ns.take i) x.1 = none := lastW_none.2 fun v hv => by
    obtain ⟨j, hj⟩ := List.getElem?_of_mem hv
    have hji : j < i := by have := (List.getElem?_eq_some_iff.1 hj).1; rw [List.length_take] at this; omega
    rw [List.getElem?_take_of_lt hji] at hj
    have : ∀ d (a b : Wri), ns[j]? = some a → ns[j + 1 + d]? = some b → ltB a.1.toList b.1.toList = true := by
      intro d
      induction d with
      | zero => intro a b h1 h2; exact ha j a b h1 h2
      | succ d ih =>
        intro a b h1 h2
        obtain ⟨c, hc⟩ : ∃ c, ns[j + 1 + d]? = some c := ⟨_, List.getElem?_eq_getElem (by have := (List.getElem?_eq_some_iff.1 h2).1; omega)⟩
        exact ltB_trans _ _ _ (ih a c h1 hc) (ha (j + 1 + d) c b hc h2)
    have := this (i - j - 1) v x hj (by rw [show j + 1 + (i - j - 1) = i by omega]; exact hx)
    exact fun e => ne_of_ltB this e.symm
  have e1 : chTo T ch (ns.take i) x.1 = ch x.1 := by unfold chTo; rw [hn]
  refine ⟨e1, ?_⟩
  funext k
  rw [e1]
  unfold chTo
  rw [take_nx hx, lastW_snoc]
  by_cases hk : k = x.1
  · rw [if_pos hk.symm, if_pos hk, hk]
  · rw [if_neg (fun e => hk e.symm), if_neg hk]
theorem Chs.apply {bs : List (List Wri)} {ch : ByteArray → List Chg} (h : Chs bs ch) (b : List Wri) : Chs (bs ++ [b]) (chTo (bs.length + 1) ch (normL b)) := by
  have e : ∀ k, chTo (bs.length + 1) ch (normL b) k = match lastW b k with | some x => ch k ++ [(bs.length + 1, x.2.1, x.2.2)] | none => ch k := fun k => by unfold chTo; rw [lastW_normL]
  refine ⟨fun k => ?_, fun k x hx => ?_, fun k => ?_, fun k t => ?_⟩
  · rw [e]
    cases lastW b k with
    | none => exact h.asc k
    | some x => exact (h.asc k).snoc fun y hy => by have := h.le k y hy; show y.1 < bs.length + 1; omega
  · rw [e] at hx
    cases hl : lastW b k with
    | none => rw [hl] at hx; have := h.le k x hx; simp; omega
    | some y =>
      rw [hl] at hx
      rcases List.mem_append.1 hx with h1 | h1
      · have := h.le k x h1; simp; omega
      · simp at h1; subst h1; simp
  · rw [e]
    have := h.len k
    cases lastW b k <;> simp <;> omega
  · rw [e]
    by_cases ht : t ≤ bs.length
    · rw [stateL_old ht, ← h.val k t]
      cases lastW b k with
      | none => rfl
      | some x => exact valAt_old (by show t < bs.length + 1; omega) _
    · rw [stateL_new (by omega), getL_applyL (stateL_asc _ _)]
      cases hl : lastW b k with
      | none =>
        show valAt (ch k) t = getL (stateL bs bs.length) k
        rw [← h.val k bs.length]
        exact valAt_sat (h.le k) (by omega)
      | some x => exact valAt_new (by show bs.length + 1 ≤ t; omega) (fun y hy => by have := h.le k y hy; omega)
/-- What is collected of all keys and sorted is the state. -/
theorem sorted_state {bs : List (List Wri)} {ch : ByteArray → List Chg} (h : Chs bs ch) {t : Nat} {es l : List Ent} (hm : ∀ k v, (k, v) ∈ es ↔ valAt (ch k) t = some v) (hn : (es.map (·.1)).Nodup) (hp : l.Perm es)
    (hs : ∀ (i j : Nat) (v w : Ent), i < j → l[i]? = some v → l[j]? = some w → ltB w.1.toList v.1.toList = false) : l = stateL bs t := by
  have hln : (l.map (·.1)).Nodup := (hp.map (·.1)).nodup_iff.2 hn
  have ha : Asc l := by
    have gen : ∀ (l : List Ent), (l.map (·.1)).Nodup → (∀ (i j : Nat) (v w : Ent), i < j → l[i]? = some v → l[j]? = some w → ltB w.1.toList v.1.toList = false) → Asc l := by
      intro l
      induction l with
      | nil => intro _ _; trivial
      | cons x r ih =>
        intro hn hs
        simp only [List.map_cons, List.nodup_cons] at hn
        have h1 := ih hn.2 (fun i j v w hij hv hw => hs (i + 1) (j + 1) v w (by omega) (by simpa using hv) (by simpa using hw))
        refine asc_mk h1 fun y hy => ?_
        obtain ⟨j, hj⟩ := List.getElem?_of_mem hy
        have h2 := hs 0 (j + 1) x y (by omega) rfl (by simpa using hj)
        cases h3 : ltB x.1.toList y.1.toList
        · exfalso
          have e : x.1 = y.1 := toList_inj (ltB_tri _ _ h3 h2)
          exact hn.1 (e ▸ List.mem_map.2 ⟨y, hy, rfl⟩)
        · rfl
    exact gen l hln hs
  refine getL_ext ha (stateL_asc _ _) fun k => ?_
  rw [← h.val k t]
  cases hv : valAt (ch k) t with
  | some v => exact getL_of_mem ha (hp.mem_iff.2 ((hm k v).2 hv))
  | none =>
    refine getL_none fun y hy e => ?_
    have := (hm y.1 y.2).1 (hp.mem_iff.1 hy)
    rw [e, hv] at this; cases this
end Go.Proofs.Ytodenkamlbihnaa.PlainE
