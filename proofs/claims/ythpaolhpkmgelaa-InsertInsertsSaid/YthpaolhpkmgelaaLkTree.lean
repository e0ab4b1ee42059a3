/-
  Trees of nodes: which way a Find goes through a tree, where it ends, and how a tree is built. No program runs here. Condition: none.
-/
import Derived.Test.YthpaolhpkmgelaaLkFind
import Derived.Test.YthpaolhpkmgelaaLkKeys
namespace Go.Proofs.Ythpaolhpkmgelaa
section
open Go.RowKit Go.Deep Plain
set_option linter.unusedVariables false

/-- The order of keys. -/
abbrev kl (a b : ByteArray) : Bool := ltB a.toList b.toList
theorem kl_trans {a b c : ByteArray} (h : kl a b = true) (k : kl b c = true) : kl a c = true := ltB_trans _ _ _ h k
theorem kl_self (a : ByteArray) : kl a a = false := ltB_self _
theorem kl_asymm {a b : ByteArray} (h : kl a b = true) : kl b a = false := ltB_asymm _ _ h
/-- a ≤ b < c -/
theorem kl_le_lt {a b c : ByteArray} (h : kl b a = false) (k : kl b c = true) : kl a c = true := le_lt _ _ _ h k
/-- a ≤ b ≤ c -/
theorem kl_le_le {a b c : ByteArray} (h : kl b a = false) (k : kl c b = false) : kl c a = false := le_le _ _ _ h k
theorem kl_nil (a : ByteArray) : kl a ⟨#[]⟩ = false := by
  show ltB a.toList (⟨#[]⟩ : ByteArray).toList = false
  rw [Lib.toList_data ⟨#[]⟩]; exact ltB_nil _
theorem asc_get : ∀ {xs : List Sl}, Asc xs → ∀ {i j : Nat} {x y : Sl}, i < j → xs[i]? = some x → xs[j]? = some y → lt x y.1 = true
  | [], _, i, j, x, y, _, hx, _ => by simp at hx
  | z :: r, ha, 0, j, x, y, hij, hx, hy => by
    obtain ⟨j', rfl⟩ : ∃ j', j = j' + 1 := ⟨j - 1, by omega⟩
    simp at hx hy; subst hx
    exact asc_head ha y (List.mem_of_getElem? hy)
  | z :: r, ha, i + 1, j, x, y, hij, hx, hy => by
    obtain ⟨j', rfl⟩ : ∃ j', j = j' + 1 := ⟨j - 1, by omega⟩
    exact asc_get (asc_tail ha) (i := i) (j := j') (by omega) (by simpa using hx) (by simpa using hy)
theorem asc_of_get : ∀ {xs : List Sl}, (∀ (i : Nat) (x y : Sl), xs[i]? = some x → xs[i + 1]? = some y → lt x y.1 = true) → Asc xs
  | [], _ => trivial
  | [_], _ => trivial
  | x :: y :: r, h => ⟨h 0 x y rfl rfl, asc_of_get fun i a b ha hb => h (i + 1) a b (by simpa using ha) (by simpa using hb)⟩
theorem seg_get {xs : List Sl} {a b q : Nat} {x : Sl} (h : ((xs.drop a).take b)[q]? = some x) : q < b ∧ xs[a + q]? = some x := by
  rw [List.getElem?_take] at h
  split at h
  · rw [List.getElem?_drop] at h; exact ⟨by assumption, h⟩
  · cases h
theorem get_seg {xs : List Sl} {a b q : Nat} {x : Sl} (hq : q < b) (h : xs[a + q]? = some x) : ((xs.drop a).take b)[q]? = some x := by
  rw [List.getElem?_take, if_pos hq, List.getElem?_drop]; exact h
theorem asc_seg {xs : List Sl} (h : Asc xs) (a b : Nat) : Asc ((xs.drop a).take b) :=
  asc_of_get fun i x y hx hy => asc_get h (i := a + i) (j := a + (i + 1)) (by omega) (seg_get hx).2 (seg_get hy).2

/-- A level: m nodes from s on, with their low keys and their pages. -/
structure Lvl (F : Nat) (l : List Cel) (s m L : Nat) (lo : Nat → ByteArray) (pg : Nat → Pg) : Prop where
  s1 : 1 ≤ s
  pos : 1 ≤ m
  top : s + m ≤ 101
  nd : ∀ i, i < m → Nd F l (s + i) (pg i)
  lv : ∀ i, i < m → (pg i).lv = L
  low0 : lo 0 = ⟨#[]⟩
  next : ∀ i, i + 1 < m → (pg i).la = false ∧ (pg i).rt = s + i + 1 ∧ (pg i).hi = lo (i + 1)
  asc : ∀ i, i + 1 < m → kl (lo i) (lo (i + 1)) = true
  last : ∀ i, i + 1 = m → (pg i).la = true ∧ (pg i).rt = 0
theorem Lvl.mono {F : Nat} {l : List Cel} {s m L : Nat} {lo : Nat → ByteArray} {pg : Nat → Pg} (h : Lvl F l s m L lo pg) {i : Nat} : ∀ {j : Nat}, i < j → j < m → kl (lo i) (lo j) = true
  | 0, hij, _ => by omega
  | j + 1, hij, hj => by
    by_cases e : i = j
    · subst e; exact h.asc i hj
    · exact kl_trans (h.mono (j := j) (by omega) (by omega)) (h.asc j hj)
/-- Page i covers the key to its right. -/
abbrev cov (P : Pg) (key : ByteArray) : Bool := P.la || kl key P.hi
/-- The node that covers a key is the last one whose low key is not greater. -/
theorem Lvl.after {F : Nat} {l : List Cel} {s m L : Nat} {lo : Nat → ByteArray} {pg : Nat → Pg} (h : Lvl F l s m L lo pg) {i j : Nat} {key : ByteArray} (hi : i < m) (hc : cov (pg i) key = true) (hij : i < j) (hj : j < m) : kl key (lo j) = true := by
  have hn := h.next i (by omega)
  unfold cov at hc
  rw [hn.1, hn.2.2, Bool.false_or] at hc
  by_cases e : i + 1 = j
  · subst e; exact hc
  · exact kl_trans hc (h.mono (by omega) hj)
theorem Lvl.unique {F : Nat} {l : List Cel} {s m L : Nat} {lo : Nat → ByteArray} {pg : Nat → Pg} (h : Lvl F l s m L lo pg) {i j : Nat} {key : ByteArray} (hi : i < m) (hj : j < m) (hli : kl key (lo i) = false) (hlj : kl key (lo j) = false) (hci : cov (pg i) key = true) (hcj : cov (pg j) key = true) : i = j := by
  rcases Nat.lt_trichotomy i j with h1 | h1 | h1
  · rw [h.after hi hci h1 hj] at hlj; cases hlj
  · exact h1
  · rw [h.after hj hcj h1 hi] at hli; cases hli

/-- A tree of H levels. -/
structure Tr (F : Nat) (l : List Cel) (H : Nat) (st mm : Nat → Nat) (lo : Nat → Nat → ByteArray) (pg : Nat → Nat → Pg) : Prop where
  H1 : 1 ≤ H
  lev : ∀ L, L < H → Lvl F l (st L) (mm L) L (lo L) (pg L)
  up : ∀ L, L + 1 < H → ∀ i, i < mm (L + 1) → (∃ r, (pg (L + 1) i).xs[0]? = some (lo (L + 1) i, r)) ∧ ∀ x ∈ (pg (L + 1) i).xs, ∃ j, j < mm L ∧ x = (lo L j, st L + j)
  ord : ∀ L, L + 1 < H → st (L + 1) = st L + mm L
  one : mm (H - 1) = 1
  root : cellAt l 0 = ((st (H - 1) : Int), ⟨#[]⟩, 0)
  tot : cellAt l 4 = ((st (H - 1) : Int), ⟨#[]⟩, 0)
section
variable {F H : Nat} {l : List Cel} {st mm : Nat → Nat} {lo : Nat → Nat → ByteArray} {pg : Nat → Nat → Pg}
theorem Tr.below (T : Tr F l H st mm lo pg) {a : Nat} : ∀ {L : Nat}, a ≤ L → L < H → st a ≤ st L
  | 0, h, _ => by obtain rfl : a = 0 := by omega
                  exact Nat.le_refl _
  | L + 1, h, hL => by
    by_cases e : a = L + 1
    · subst e; exact Nat.le_refl _
    · have := T.below (a := a) (L := L) (by omega) (by omega)
      have := T.ord L hL
      omega
theorem Tr.below2 (T : Tr F l H st mm lo pg) {a L : Nat} (h : a < L) (hL : L < H) : st a + mm a ≤ st L := by
  have h1 := T.ord a (by omega)
  have h2 := T.below (a := a + 1) (L := L) (by omega) hL
  omega
/-- All nodes are numbers up to the root's. -/
theorem Tr.all (T : Tr F l H st mm lo pg) {L i : Nat} (hL : L < H) (hi : i < mm L) : 1 ≤ st L + i ∧ st L + i ≤ st (H - 1) ∧ st (H - 1) ≤ 100 := by
  have h1 := (T.lev L hL).s1
  have h3 := (T.lev (H - 1) (by have := T.H1; omega)).top
  have h4 := T.one
  refine ⟨by omega, ?_, by omega⟩
  by_cases e : L = H - 1
  · subst e; omega
  · have := T.below2 (a := L) (L := H - 1) (by omega) (by have := T.H1; omega)
    omega

/-- Every node is entered on the level above. -/
def Full (H : Nat) (mm : Nat → Nat) (lo : Nat → Nat → ByteArray) (pg : Nat → Nat → Pg) (st : Nat → Nat) : Prop :=
  ∀ L, L + 1 < H → ∀ i, i < mm (L + 1) → ∀ q j, (pg (L + 1) i).xs[q]? = some (lo L j, st L + j) → j + 1 < mm L → (∃ r, (pg (L + 1) i).xs[q + 1]? = some (lo L (j + 1), r)) ∨ ((pg (L + 1) i).xs.length = q + 1 ∧ (pg (L + 1) i).la = false ∧ (pg (L + 1) i).hi = lo L (j + 1))
end

/-- The leaves hold the keys, one row after the other. -/
structure Leaves (ks : List ByteArray) (m : Nat) (lo : Nat → ByteArray) (pg : Nat → Pg) (off : Nat → Nat) : Prop where
  zero : off 0 = 0
  all : off m = ks.length
  step : ∀ i, i < m → off (i + 1) = off i + (pg i).xs.length
  slot : ∀ i, i < m → ∀ q x, (pg i).xs[q]? = some x → ks[off i + q]? = some x.1 ∧ x.2 = off i + q + 1
  low : ∀ i, i < m → ∀ x ∈ (pg i).xs, kl x.1 (lo i) = false
  high : ∀ i, i < m → ∀ x ∈ (pg i).xs, cov (pg i) x.1 = true
theorem Leaves.mono {ks : List ByteArray} {m : Nat} {lo : Nat → ByteArray} {pg : Nat → Pg} {off : Nat → Nat} (h : Leaves ks m lo pg off) {i : Nat} : ∀ {j : Nat}, i ≤ j → j ≤ m → off i ≤ off j
  | 0, hij, _ => by obtain rfl : i = 0 := by omega
                    exact Nat.le_refl _
  | j + 1, hij, hj => by
    by_cases e : i = j + 1
    · subst e; exact Nat.le_refl _
    · have := h.mono (i := i) (j := j) (by omega) (by omega)
      have := h.step j (by omega)
      omega
end

section
open Go.RowKit Go.Deep Plain
set_option linter.unusedVariables false

theorem sep_gt {a b : ByteArray} (h : kl a b = true) : kl a (sepB a b) = true := by
  show ltB a.toList (sepB a b).toList = true
  rw [sepB_toList]; unfold sep; rw [if_pos (show ltB a.toList b.toList = true from h)]
  exact sep_lt _ _ h
theorem sep_le {a b : ByteArray} (h : kl a b = true) : kl b (sepB a b) = false := by
  show ltB b.toList (sepB a b).toList = false
  rw [sepB_toList]; unfold sep; rw [if_pos (show ltB a.toList b.toList = true from h)]
  exact take_le _ _

/-- A division of n slots into nodes of level L. -/
structure Pt (F L n : Nat) (ps : List Nat) : Prop where
  ne : 0 < ps.length
  sum : ps.sum = n
  le : ∀ i p : Nat, ps[i]? = some p → p ≤ F
  pos : 0 < n → ∀ i p : Nat, ps[i]? = some p → 1 ≤ p
  two : 1 ≤ L → ∀ i p : Nat, ps[i]? = some p → i + 1 < ps.length → 2 ≤ p
  zero : n = 0 → ps.length = 1
def fr (ps : List Nat) (i : Nat) : Nat := (ps.take i).sum
theorem fr_step {ps : List Nat} {i p : Nat} (h : ps[i]? = some p) : fr ps (i + 1) = fr ps i + p := by
  unfold fr; rw [List.take_add_one, h]; simp
theorem fr_all (ps : List Nat) : fr ps ps.length = ps.sum := by unfold fr; rw [List.take_length]
theorem fr_mono (ps : List Nat) {i : Nat} : ∀ {j : Nat}, i ≤ j → fr ps i ≤ fr ps j
  | 0, h => by obtain rfl : i = 0 := by omega
               exact Nat.le_refl _
  | j + 1, h => by
    by_cases e : i = j + 1
    · subst e; exact Nat.le_refl _
    · have := fr_mono ps (i := i) (j := j) (by omega)
      cases hp : ps[j]? with
      | none => unfold fr at *; rw [List.take_add_one, hp]; simpa using this
      | some p => rw [fr_step hp]; omega
theorem fr_le {F L n : Nat} {ps : List Nat} (h : Pt F L n ps) {i : Nat} (hi : i ≤ ps.length) : fr ps i ≤ n := by
  have := fr_mono ps hi; rw [fr_all, h.sum] at this; exact this
theorem get_ps {ps : List Nat} {i : Nat} (h : i < ps.length) : ∃ p, ps[i]? = some p ∧ ps.getD i 0 = p := ⟨ps[i], List.getElem?_eq_getElem h, by rw [List.getD_eq_getElem?_getD, List.getElem?_eq_getElem h]; rfl⟩
/-- Between two nodes there are slots on both sides. -/
theorem fr_lt {F L n : Nat} {ps : List Nat} (h : Pt F L n ps) {i : Nat} (hi : i + 1 < ps.length) : fr ps i < fr ps (i + 1) ∧ fr ps (i + 1) < n := by
  have hn : 0 < n := by
    rcases Nat.eq_zero_or_pos n with e | e
    · have := h.zero e; omega
    · exact e
  obtain ⟨p, hp, -⟩ := get_ps (ps := ps) (i := i) (by omega)
  obtain ⟨q, hq, -⟩ := get_ps (ps := ps) (i := i + 1) hi
  have h1 := h.pos hn i p hp
  have h2 := h.pos hn (i + 1) q hq
  have h3 := fr_step hp
  have h4 := fr_step hq
  have h5 := fr_le h (i := i + 1 + 1) (by omega)
  omega
theorem fr_two {F L n : Nat} {ps : List Nat} (h : Pt F L n ps) (hL : 1 ≤ L) : ∀ i, i + 1 ≤ ps.length → 2 * i ≤ fr ps i
  | 0, _ => by omega
  | i + 1, hi => by
    have ih := fr_two h hL i (by omega)
    obtain ⟨p, hp, -⟩ := get_ps (ps := ps) (i := i) (by omega)
    have h1 := h.two hL i p hp (by omega)
    rw [fr_step hp]; omega
theorem fr_one {F L n : Nat} {ps : List Nat} (h : Pt F L n ps) (hn : 0 < n) : ∀ i, i ≤ ps.length → i ≤ fr ps i
  | 0, _ => by omega
  | i + 1, hi => by
    have ih := fr_one h hn i (by omega)
    obtain ⟨p, hp, -⟩ := get_ps (ps := ps) (i := i) (by omega)
    have h1 := h.pos hn i p hp
    rw [fr_step hp]; omega
/-- How many nodes there are. -/
theorem Pt.count {F L n : Nat} {ps : List Nat} (h : Pt F L n ps) : ps.length ≤ n ∨ ps.length = 1 := by
  rcases Nat.eq_zero_or_pos n with e | e
  · exact .inr (h.zero e)
  · have := fr_one h e ps.length (Nat.le_refl _)
    rw [fr_all, h.sum] at this; exact .inl this
theorem Pt.count2 {F L n : Nat} {ps : List Nat} (h : Pt F L n ps) (hL : 1 ≤ L) (hn : 0 < n) : 2 * ps.length ≤ n + 1 := by
  have hne := h.ne
  have h1 := fr_two h hL (ps.length - 1) (by omega)
  obtain ⟨p, hp, -⟩ := get_ps (ps := ps) (i := ps.length - 1) (by omega)
  have h2 := h.pos hn _ p hp
  have h3 := fr_step hp
  rw [show ps.length - 1 + 1 = ps.length by omega, fr_all, h.sum] at h3
  omega

def kat (S : List Sl) (i : Nat) : ByteArray := (S.getD i (⟨#[]⟩, 0)).1
theorem kat_at {S : List Sl} {i : Nat} {x : Sl} (h : S[i]? = some x) : kat S i = x.1 := by unfold kat; rw [List.getD_eq_getElem?_getD, h]; rfl
theorem kat_get {S : List Sl} {i : Nat} (h : i < S.length) : ∃ r, S[i]? = some (kat S i, r) := by
  have h1 := List.getElem?_eq_getElem h
  exact ⟨(S[i]).2, by rw [kat_at h1, h1]⟩
theorem kat_lt {S : List Sl} (ha : Asc S) {i j : Nat} (hij : i < j) (hj : j < S.length) : kl (kat S i) (kat S j) = true := by
  obtain ⟨r, hr⟩ := kat_get (S := S) (i := i) (by omega)
  obtain ⟨q, hq⟩ := kat_get hj
  have := asc_get ha hij hr hq
  exact this
theorem kat_le {S : List Sl} (ha : Asc S) {i j : Nat} (hij : i ≤ j) (hj : j < S.length) : kl (kat S j) (kat S i) = false := by
  by_cases e : i = j
  · subst e; exact kl_self _
  · exact kl_asymm (kat_lt ha (by omega) hj)
/-- The high key of node i of a level, its low key, its page. -/
def hiL (L : Nat) (S : List Sl) (ps : List Nat) (i : Nat) : ByteArray := if i + 1 < ps.length then (if L = 0 then sepB (kat S (fr ps (i + 1) - 1)) (kat S (fr ps (i + 1))) else kat S (fr ps (i + 1))) else ⟨#[]⟩
def loL (L : Nat) (S : List Sl) (ps : List Nat) (i : Nat) : ByteArray := if i = 0 then ⟨#[]⟩ else hiL L S ps (i - 1)
def pgL (L : Nat) (S : List Sl) (ps : List Nat) (nx i : Nat) : Pg := ⟨L, hiL L S ps i, decide (i + 1 = ps.length), if i + 1 < ps.length then nx + i + 1 else 0, (S.drop (fr ps i)).take (ps.getD i 0)⟩
theorem loL_succ (L : Nat) (S : List Sl) (ps : List Nat) (i : Nat) : loL L S ps (i + 1) = hiL L S ps i := by unfold loL; rw [if_neg (by omega), Nat.add_sub_cancel]
section
variable {F L nx : Nat} {S : List Sl} {ps : List Nat}
theorem hi_gt (ha : Asc S) (h : Pt F L S.length ps) {i : Nat} (hi : i + 1 < ps.length) : kl (kat S (fr ps (i + 1) - 1)) (hiL L S ps i) = true ∧ kl (kat S (fr ps (i + 1))) (hiL L S ps i) = false := by
  obtain ⟨h1, h2⟩ := fr_lt h hi
  have h3 := kat_lt ha (i := fr ps (i + 1) - 1) (j := fr ps (i + 1)) (by omega) h2
  unfold hiL; rw [if_pos hi]
  split
  · exact ⟨sep_gt h3, sep_le h3⟩
  · exact ⟨h3, kl_self _⟩
theorem lo_le (ha : Asc S) (h : Pt F L S.length ps) {i : Nat} (hi : i < ps.length) {j : Nat} (hj : fr ps i ≤ j) (hjn : j < S.length) : kl (kat S j) (loL L S ps i) = false := by
  cases i with
  | zero => unfold loL; rw [if_pos rfl]; exact kl_nil _
  | succ i =>
    rw [loL_succ]
    have h1 := (hi_gt ha h hi).2
    exact kl_le_le h1 (kat_le ha hj hjn)
theorem lo_asc (ha : Asc S) (h : Pt F L S.length ps) {i : Nat} (hi : i + 1 < ps.length) : kl (loL L S ps i) (loL L S ps (i + 1)) = true := by
  obtain ⟨h1, h2⟩ := fr_lt h hi
  have h3 := lo_le ha h (i := i) (by omega) (j := fr ps (i + 1) - 1) (by omega) (by omega)
  rw [loL_succ]
  exact kl_le_lt h3 (hi_gt ha h hi).1
/-- A slot of page i. -/
theorem pg_slot (h : Pt F L S.length ps) {i q : Nat} {x : Sl} (hi : i < ps.length) (hx : (pgL L S ps nx i).xs[q]? = some x) : S[fr ps i + q]? = some x ∧ fr ps i + q < fr ps (i + 1) := by
  obtain ⟨p, hp, hpd⟩ := get_ps hi
  have hx' : ((S.drop (fr ps i)).take (ps.getD i 0))[q]? = some x := hx
  rw [hpd] at hx'
  obtain ⟨h1, h2⟩ := seg_get hx'
  exact ⟨h2, by rw [fr_step hp]; omega⟩
theorem pg_len (h : Pt F L S.length ps) {i : Nat} (hi : i < ps.length) : (pgL L S ps nx i).xs.length = ps.getD i 0 ∧ fr ps (i + 1) = fr ps i + ps.getD i 0 ∧ ps.getD i 0 ≤ F := by
  obtain ⟨p, hp, hpd⟩ := get_ps hi
  have h1 := fr_step hp
  have h2 := fr_le h (i := i + 1) (by omega)
  refine ⟨?_, by rw [hpd]; exact h1, by rw [hpd]; exact h.le i p hp⟩
  show ((S.drop (fr ps i)).take (ps.getD i 0)).length = ps.getD i 0
  rw [List.length_take, List.length_drop, hpd]; omega
theorem pg_wf (i : Nat) : Wf (pgL L S ps nx i) := fun h => by
  have h' : i + 1 = ps.length := by simpa [pgL] using h
  show hiL L S ps i = _
  unfold hiL; rw [if_neg (by omega)]
theorem pg_asc (ha : Asc S) (i : Nat) : Asc (pgL L S ps nx i).xs := asc_seg ha _ _
/-- A level whose pages lie in the cells. -/
theorem lvl_of {l : List Cel} (ha : Asc S) (h : Pt F L S.length ps) (h1 : 1 ≤ nx) (h2 : nx + ps.length ≤ 101) (hh : ∀ i, i < ps.length → Holds (nad F (nx + i)) l (pgL L S ps nx i)) (hz : ∀ n, 1 ≤ n → n ≤ 100 → cellAt l (nla F n) = cel0) : Lvl F l nx ps.length L (loL L S ps) (pgL L S ps nx) where
  s1 := h1
  pos := h.ne
  top := h2
  nd := fun i hi => ⟨by omega, hh i hi, ⟨0, by rw [hz _ (by omega) (by omega)]; rfl, by decide⟩, pg_wf i, by rw [(pg_len h hi).1]; exact (pg_len (nx := nx) h hi).2.2, pg_asc ha i⟩
  lv := fun i hi => rfl
  low0 := by unfold loL; rw [if_pos rfl]
  next := fun i hi => ⟨by show decide _ = false; simp; omega, by show (if i + 1 < ps.length then nx + i + 1 else 0) = _; rw [if_pos hi], by rw [loL_succ]; rfl⟩
  asc := fun i hi => lo_asc ha h hi
  last := fun i hi => ⟨by show decide _ = true; simp [hi], by show (if i + 1 < ps.length then nx + i + 1 else 0) = _; rw [if_neg (by omega)]⟩
/-- The first slot of a node above the leaves has its low key. -/
theorem first_of (h : Pt F L S.length ps) (hL : 1 ≤ L) {r0 : Nat} (h0 : S[0]? = some (⟨#[]⟩, r0)) {i : Nat} (hi : i < ps.length) : ∃ r, (pgL L S ps nx i).xs[0]? = some (loL L S ps i, r) := by
  have hn : 0 < S.length := (List.getElem?_eq_some_iff.1 h0).1
  obtain ⟨p, hp, hpd⟩ := get_ps hi
  have hp1 := h.pos hn i p hp
  have h4 := fr_le h (i := i + 1) (by omega)
  rw [fr_step hp] at h4
  have key : ∀ x, S[fr ps i]? = some x → (pgL L S ps nx i).xs[0]? = some x := fun x hx => by
    show ((S.drop (fr ps i)).take (ps.getD i 0))[0]? = some x
    rw [hpd]; exact get_seg (by omega) (by rw [Nat.add_zero]; exact hx)
  cases i with
  | zero => exact ⟨r0, by rw [key _ h0]; unfold loL; rw [if_pos rfl]⟩
  | succ i =>
    obtain ⟨r, hr⟩ := kat_get (S := S) (i := fr ps (i + 1)) (by omega)
    refine ⟨r, ?_⟩
    rw [key _ hr, loL_succ]
    unfold hiL; rw [if_pos hi, if_neg (by omega)]
/-- The leaves hold the keys. -/
theorem leaves_of {ks : List ByteArray} (ha : Asc S) (h : Pt F 0 S.length ps) (hS : S.length = ks.length) (hk : ∀ i x, S[i]? = some x → ks[i]? = some x.1 ∧ x.2 = i + 1) : Leaves ks ps.length (loL 0 S ps) (pgL 0 S ps nx) (fr ps) where
  zero := rfl
  all := by rw [fr_all, h.sum, hS]
  step := fun i hi => by rw [(pg_len h hi).1]; exact (pg_len (nx := nx) h hi).2.1
  slot := fun i hi q x hx => hk _ _ (pg_slot h hi hx).1
  low := fun i hi x hx => by
    obtain ⟨q, hq⟩ := List.mem_iff_getElem?.1 hx
    obtain ⟨h1, h2⟩ := pg_slot h hi hq
    have := lo_le ha h hi (j := fr ps i + q) (by omega) (List.getElem?_eq_some_iff.1 h1).1
    rwa [kat_at h1] at this
  high := fun i hi x hx => by
    obtain ⟨q, hq⟩ := List.mem_iff_getElem?.1 hx
    obtain ⟨h1, h2⟩ := pg_slot h hi hq
    unfold cov
    by_cases e : i + 1 = ps.length
    · rw [show (pgL 0 S ps nx i).la = true from by show decide _ = true; simp [e], Bool.true_or]
    · have h3 := (hi_gt ha h (i := i) (by omega)).1
      have h4 := kat_le ha (i := fr ps i + q) (j := fr ps (i + 1) - 1) (by omega) (by have := fr_le h (i := i + 1) (by omega); omega)
      rw [kat_at h1] at h4
      rw [show kl x.1 (pgL 0 S ps nx i).hi = true from kl_le_lt h4 h3, Bool.or_true]

theorem pg_cov (ha : Asc S) (h : Pt F L S.length ps) {i : Nat} (hi : i < ps.length) {x : Sl} (hx : x ∈ (pgL L S ps nx i).xs) : cov (pgL L S ps nx i) x.1 = true := by
  obtain ⟨q, hq⟩ := List.mem_iff_getElem?.1 hx
  obtain ⟨h1, h2⟩ := pg_slot h hi hq
  unfold cov
  by_cases e : i + 1 = ps.length
  · rw [show (pgL L S ps nx i).la = true from by show decide _ = true; simp [e], Bool.true_or]
  · have h3 := (hi_gt ha h (i := i) (by omega)).1
    have h4 := kat_le ha (i := fr ps i + q) (j := fr ps (i + 1) - 1) (by omega) (by have := fr_le h (i := i + 1) (by omega); omega)
    rw [kat_at h1] at h4
    rw [show kl x.1 (pgL L S ps nx i).hi = true from kl_le_lt h4 h3, Bool.or_true]
/-- What is entered above of the first i nodes. -/
structure Abv (L : Nat) (S : List Sl) (ps : List Nat) (nx : Nat) (hide : Bool) (i : Nat) (ab : List Sl) : Prop where
  mem : ∀ x ∈ ab, ∃ j, j < i ∧ x = (loL L S ps j, nx + j)
  head : 0 < i → ab[0]? = some (⟨#[]⟩, nx)
  len : ab.length ≤ i
  asc : Asc ab
  all : hide = false → ab.length = i ∧ ∀ j, j < i → ab[j]? = some (loL L S ps j, nx + j)
theorem Abv.nil (hide : Bool) : Abv L S ps nx hide 0 [] := ⟨fun x h => by simp at h, fun h => by omega, Nat.le_refl _, trivial, fun _ => ⟨rfl, fun j h => by omega⟩⟩
theorem Abv.out {hide : Bool} {i : Nat} {ab : List Sl} (h : Abv L S ps nx hide i ab) (hi : 0 < i) (hh : hide = true) : Abv L S ps nx hide (i + 1) ab :=
  ⟨fun x hx => by obtain ⟨j, h1, h2⟩ := h.mem x hx; exact ⟨j, by omega, h2⟩, fun _ => h.head hi, by have := h.len; omega, h.asc, fun e => by rw [hh] at e; cases e⟩
end

/-- Stores into nodes from nx on leave the rest as it was. -/
structure Mv (F nx : Nat) (l l' : List Cel) : Prop where
  len : l'.length = l.length
  low : ∀ n, 1 ≤ n → n < nx → ∀ r, r < F + 3 → cellAt l' (nad F n r) = cellAt l (nad F n r)
  lat : ∀ n, 1 ≤ n → n ≤ 100 → cellAt l' (nla F n) = cellAt l (nla F n)
  ctr : ∀ i : Int, 0 ≤ i → i < 10 → cellAt l' i = cellAt l i
  nats : Nats l → Nats l'
  far : ∀ i : Int, 10 + 100 * (F : Int) + 400 ≤ i → cellAt l' i = cellAt l i
theorem Mv.refl (F nx : Nat) (l : List Cel) : Mv F nx l l := ⟨rfl, fun _ _ _ _ _ => rfl, fun _ _ _ => rfl, fun _ _ _ => rfl, id, fun _ _ => rfl⟩
theorem Mv.trans {F nx nx2 : Nat} {l l1 l2 : List Cel} (h : Mv F nx l l1) (k : Mv F nx2 l1 l2) (hn : nx ≤ nx2) : Mv F nx l l2 :=
  ⟨k.len.trans h.len, fun n h1 h2 r hr => (k.low n h1 (by omega) r hr).trans (h.low n h1 h2 r hr), fun n h1 h2 => (k.lat n h1 h2).trans (h.lat n h1 h2), fun i h1 h2 => (k.ctr i h1 h2).trans (h.ctr i h1 h2), fun hn => k.nats (h.nats hn), fun i hi => (k.far i hi).trans (h.far i hi)⟩
theorem nla_lin {F n : Nat} (h4 : 4 ≤ F) (h6 : F ≤ 6) (h1 : 1 ≤ n) (h2 : n ≤ 100) : (F = 4 ∧ nla F n = 10 + ((n : Int) - 1) * 8) ∨ (F = 5 ∧ nla F n = 10 + ((n : Int) - 1) * 9) ∨ (F = 6 ∧ nla F n = 10 + ((n : Int) - 1) * 10) := by
  have h := nla_eq (F := F) h1 h2
  rcases (by omega : F = 4 ∨ F = 5 ∨ F = 6) with rfl | rfl | rfl
  · exact .inl ⟨rfl, by omega⟩
  · exact .inr (.inl ⟨rfl, by omega⟩)
  · exact .inr (.inr ⟨rfl, by omega⟩)
theorem nla_far {F n m : Nat} (h4 : 4 ≤ F) (h6 : F ≤ 6) (h1 : 1 ≤ n) (hnm : n < m) (h2 : m ≤ 100) : nla F n + (F : Int) + 4 ≤ nla F m := by
  rcases nla_lin h4 h6 h1 (by omega : n ≤ 100) with ⟨e1, a⟩ | ⟨e1, a⟩ | ⟨e1, a⟩ <;> rcases nla_lin h4 h6 (by omega : 1 ≤ m) h2 with ⟨e2, b⟩ | ⟨e2, b⟩ | ⟨e2, b⟩ <;> omega
theorem Mv.page {F nx n : Nat} (h4 : 4 ≤ F) (h6 : F ≤ 6) (h1 : 1 ≤ nx) (hn : nx ≤ n) (h2 : n ≤ 100) (l : List Cel) {P : Pg} (hP : P.xs.length ≤ F) (hf : Fits P) : Mv F nx l (app l (pst (nad F n) P)) := by
  have had : ∀ r, r < F + 3 → nad F n r = nla F n + 1 + (r : Int) := fun r hr => nad_eq (by omega) h2 hr
  have hpos : 10 ≤ nla F n := by rcases nla_lin h4 h6 (by omega : 1 ≤ n) h2 with ⟨e, a⟩ | ⟨e, a⟩ | ⟨e, a⟩ <;> omega
  refine ⟨app_length _ _, fun m hm1 hm2 r hr => app_other _ _ fun s hs e => ?_, fun m hm1 hm2 => app_other _ _ fun s hs e => ?_, fun i hi1 hi2 => app_other _ _ fun s hs e => ?_, fun hN => hN.app (hf.pstN _), fun i hi => app_other _ _ fun s hs e => ?_⟩
  · obtain ⟨q, hq, rfl⟩ := pst_addr hs
    have e' : nad F n q = nad F m r := e
    rw [had q (by omega), nad_eq hm1 (by omega) hr] at e'
    have := nla_far h4 h6 hm1 (by omega : m < n) h2
    omega
  · obtain ⟨q, hq, rfl⟩ := pst_addr hs
    have e' : nad F n q = nla F m := e
    rw [had q (by omega)] at e'
    rcases Nat.lt_trichotomy m n with h | h | h
    · have := nla_far h4 h6 hm1 h h2; omega
    · subst h; omega
    · have := nla_far h4 h6 (by omega : 1 ≤ n) h hm2; omega
  · obtain ⟨q, hq, rfl⟩ := pst_addr hs
    have e' : nad F n q = i := e
    rw [had q (by omega)] at e'
    omega
  · obtain ⟨q, hq, rfl⟩ := pst_addr hs
    have e' : nad F n q = i := e
    rw [had q (by omega)] at e'
    rcases nla_lin h4 h6 (by omega : 1 ≤ n) h2 with ⟨e, a⟩ | ⟨e, a⟩ | ⟨e, a⟩ <;> omega
/-- The cells of no node: all are zero but the first, the fifth, and the sixth, which is the number of chains. -/
def Rest (F k : Nat) (l : List Cel) : Prop := (∀ i : Int, ((1 ≤ i ∧ i ≤ 3) ∨ (6 ≤ i ∧ i < 10) ∨ 10 + 100 * (F : Int) + 400 ≤ i) → cellAt l i = cel0) ∧ cellAt l 5 = ((k : Int), ⟨#[]⟩, 0)
theorem Mv.rest {F nx k : Nat} {l l' : List Cel} (h : Mv F nx l l') (r : Rest F k l) : Rest F k l' :=
  ⟨fun i hi => by
    rcases hi with a | a | a
    · exact (h.ctr i (by omega) (by omega)).trans (r.1 i (.inl a))
    · exact (h.ctr i (by omega) (by omega)).trans (r.1 i (.inr (.inl a)))
    · exact (h.far i a).trans (r.1 i (.inr (.inr a))), (h.ctr 5 (by omega) (by omega)).trans r.2⟩
theorem Mv.ctrPoke {F nx : Nat} (h4 : 4 ≤ F) (h6 : F ≤ 6) (hnx : nx ≤ 101) (l : List Cel) {a : Int} (ha : 0 ≤ a ∧ a < 10) (c : Cel) (hc : NatCell c) : (∀ n, 1 ≤ n → n < nx → ∀ r, r < F + 3 → cellAt (putAt l a c) (nad F n r) = cellAt l (nad F n r)) ∧ (∀ n, 1 ≤ n → n ≤ 100 → cellAt (putAt l a c) (nla F n) = cellAt l (nla F n)) ∧ (Nats l → Nats (putAt l a c)) := by
  refine ⟨fun n h1 h2 r hr => cellAt_other (fun e => ?_) _, fun n h1 h2 => cellAt_other (fun e => ?_) _, fun hN => hN.put _ hc⟩
  · rw [nad_eq h1 (by omega) hr] at e
    rcases nla_lin h4 h6 h1 (by omega : n ≤ 100) with ⟨e2, b⟩ | ⟨e2, b⟩ | ⟨e2, b⟩ <;> omega
  · rcases nla_lin h4 h6 h1 h2 with ⟨e2, b⟩ | ⟨e2, b⟩ | ⟨e2, b⟩ <;> omega
theorem Nd.move {F n : Nat} {l l' : List Cel} {P : Pg} (h : Nd F l n P) (hc : ∀ r, r < F + 3 → cellAt l' (nad F n r) = cellAt l (nad F n r)) (hz : cellAt l' (nla F n) = cellAt l (nla F n)) : Nd F l' n P :=
  ⟨h.ne, fun r hr => (hc r (by have := h.len; omega)).trans (h.holds r hr), by rw [hz]; exact h.lat, h.wf, h.len, h.asc⟩
theorem Lvl.move {F : Nat} {l l' : List Cel} {s m L : Nat} {lo : Nat → ByteArray} {pg : Nat → Pg} (h : Lvl F l s m L lo pg) (hc : ∀ n, 1 ≤ n → n < s + m → ∀ r, r < F + 3 → cellAt l' (nad F n r) = cellAt l (nad F n r)) (hz : ∀ n, 1 ≤ n → n ≤ 100 → cellAt l' (nla F n) = cellAt l (nla F n)) : Lvl F l' s m L lo pg :=
  ⟨h.s1, h.pos, h.top, fun i hi => (h.nd i hi).move (hc _ (by have := h.s1; omega) (by omega)) (hz _ (by have := h.s1; omega) (by have := h.top; omega)), h.lv, h.low0, h.next, h.asc, h.last⟩
end

section
open Go.RowKit Go.Deep Plain
set_option linter.unusedVariables false

/-- How many nodes so many slots can still need. -/
def cap (n : Nat) : Nat := if n ≤ 2 then 1 else (3 * n - 2) / 2
theorem cap_step {n p m : Nat} (hn : 0 < n) (hp : 2 * p ≤ n + 1) (h2 : 2 ≤ p) (hm : m ≤ p) : p + cap m ≤ cap n := by
  unfold cap
  rw [if_neg (by omega : ¬ n ≤ 2)]
  split <;> omega
theorem cap_le {n p : Nat} (hp : 2 * p ≤ n + 1) : p ≤ cap n := by
  unfold cap; split <;> omega
/-- A function with another value at one place. -/
def upd {α : Type} (f : Nat → α) (L : Nat) (x : α) : Nat → α := fun i => if i = L then x else f i
theorem upd_at {α : Type} (f : Nat → α) (L : Nat) (x : α) : upd f L x L = x := if_pos rfl
theorem upd_ne {α : Type} (f : Nat → α) {L i : Nat} (x : α) (h : i ≠ L) : upd f L x i = f i := if_neg h

/-- A tree of L levels, and the slots of the next one; its nodes begin at nx. -/
structure Bt (F : Nat) (l : List Cel) (L nx : Nat) (S : List Sl) (ks : List ByteArray) (hide : Bool) (st mm : Nat → Nat) (lo : Nat → Nat → ByteArray) (pg : Nat → Nat → Pg) (off : Nat → Nat) : Prop where
  nats : Nats l
  big : 10 + 100 * (F : Int) + 400 ≤ (l.length : Int)
  zero : ∀ n, 1 ≤ n → n ≤ 100 → cellAt l (nla F n) = cel0
  asc : Asc S
  ref : ∀ x ∈ S, x.2 < 18446744073709551616
  lev : ∀ L', L' < L → Lvl F l (st L') (mm L') L' (lo L') (pg L')
  up : ∀ L', L' + 1 < L → ∀ i, i < mm (L' + 1) → (∃ r, (pg (L' + 1) i).xs[0]? = some (lo (L' + 1) i, r)) ∧ ∀ x ∈ (pg (L' + 1) i).xs, ∃ j, j < mm L' ∧ x = (lo L' j, st L' + j)
  ord : ∀ L', L' + 1 < L → st (L' + 1) = st L' + mm L'
  base : L = 0 → nx = 1 ∧ S.length = ks.length ∧ S.length ≤ 40 ∧ ∀ i x, S[i]? = some x → ks[i]? = some x.1 ∧ x.2 = i + 1
  more : ∀ L', L = L' + 1 → nx = st L' + mm L' ∧ S[0]? = some (⟨#[]⟩, st L') ∧ (∀ x ∈ S, ∃ j, j < mm L' ∧ x = (lo L' j, st L' + j)) ∧ nx + cap S.length ≤ 101 ∧ (hide = false → S.length = mm L' ∧ ∀ j, j < mm L' → S[j]? = some (lo L' j, st L' + j))
  leaves : 1 ≤ L → Leaves ks (mm 0) (lo 0) (pg 0) off ∧ st 0 = 1
  full : hide = false → Full L mm lo pg st
  rest : Rest F ks.length l
  hi : ∀ L', L' < L → ∀ i, i < mm L' → ∀ x ∈ (pg L' i).xs, cov (pg L' i) x.1 = true
section
variable {F L nx : Nat} {l l' : List Cel} {S ab : List Sl} {ks : List ByteArray} {hide : Bool} {st mm : Nat → Nat} {lo : Nat → Nat → ByteArray} {pg : Nat → Nat → Pg} {off : Nat → Nat} {ps : List Nat}
theorem Bt.tall (B : Bt F l L nx S ks hide st mm lo pg off) : ∀ {L' : Nat}, L' < L → L' + 1 ≤ st L'
  | 0, h => (B.lev 0 h).s1
  | L' + 1, h => by
    have h1 := B.tall (L' := L') (by omega)
    have h2 := B.ord L' h
    have h3 := (B.lev L' (by omega)).pos
    omega
theorem Bt.nx1 (B : Bt F l L nx S ks hide st mm lo pg off) : L + 1 ≤ nx := by
  rcases Nat.eq_zero_or_pos L with e | e
  · have := (B.base e).1; omega
  · obtain ⟨L', rfl⟩ : ∃ L', L = L' + 1 := ⟨L - 1, by omega⟩
    have h1 := (B.more L' rfl).1
    have h2 := B.tall (L' := L') (by omega)
    have h3 := (B.lev L' (by omega)).pos
    omega
theorem Bt.pos (B : Bt F l L nx S ks hide st mm lo pg off) (h : 1 ≤ L) : 0 < S.length := by
  obtain ⟨L', rfl⟩ : ∃ L', L = L' + 1 := ⟨L - 1, by omega⟩
  exact (List.getElem?_eq_some_iff.1 (B.more L' rfl).2.1).1
theorem Bt.room (B : Bt F l L nx S ks hide st mm lo pg off) (hp : Pt F L S.length ps) : nx + ps.length ≤ 101 ∧ (L = 0 → nx + ps.length ≤ 41) := by
  rcases Nat.eq_zero_or_pos L with e | e
  · obtain ⟨h1, h2, h3, -⟩ := B.base e
    rcases hp.count with h | h
    · exact ⟨by omega, fun _ => by omega⟩
    · exact ⟨by omega, fun _ => by omega⟩
  · have h1 := hp.count2 e (B.pos e)
    have h2 := cap_le h1
    obtain ⟨L', rfl⟩ : ∃ L', L = L' + 1 := ⟨L - 1, by omega⟩
    have := (B.more L' rfl).2.2.2.1
    exact ⟨by omega, fun h => by omega⟩
theorem Bt.low (B : Bt F l L nx S ks hide st mm lo pg off) {L' : Nat} (h : L' < L) : st L' + mm L' ≤ nx := by
  have key : ∀ k, L' + k + 1 = L → st L' + mm L' ≤ nx := by
    intro k
    induction k generalizing L' with
    | zero => intro e; have := (B.more L' (by omega)).1; omega
    | succ k ih =>
      intro e
      have h1 := ih (L' := L' + 1) (by omega) (by omega)
      have h2 := B.ord L' (by omega)
      omega
  exact key (L - 1 - L') (by omega)

/-- All levels with the next one. -/
theorem Bt.levels (B : Bt F l L nx S ks hide st mm lo pg off) (hp : Pt F L S.length ps) (hc : ∀ n, 1 ≤ n → n < nx → ∀ r, r < F + 3 → cellAt l' (nad F n r) = cellAt l (nad F n r)) (hz : ∀ n, 1 ≤ n → n ≤ 100 → cellAt l' (nla F n) = cellAt l (nla F n)) (hh : ∀ i, i < ps.length → Holds (nad F (nx + i)) l' (pgL L S ps nx i)) :
    (∀ L', L' < L + 1 → Lvl F l' (upd st L nx L') (upd mm L ps.length L') L' (upd lo L (loL L S ps) L') (upd pg L (pgL L S ps nx) L')) ∧
    (∀ L', L' + 1 < L + 1 → ∀ i, i < upd mm L ps.length (L' + 1) → (∃ r, (upd pg L (pgL L S ps nx) (L' + 1) i).xs[0]? = some (upd lo L (loL L S ps) (L' + 1) i, r)) ∧ ∀ x ∈ (upd pg L (pgL L S ps nx) (L' + 1) i).xs, ∃ j, j < upd mm L ps.length L' ∧ x = (upd lo L (loL L S ps) L' j, upd st L nx L' + j)) ∧
    (∀ L', L' + 1 < L + 1 → upd st L nx (L' + 1) = upd st L nx L' + upd mm L ps.length L') ∧
    (Leaves ks (upd mm L ps.length 0) (upd lo L (loL L S ps) 0) (upd pg L (pgL L S ps nx) 0) (if L = 0 then fr ps else off) ∧ upd st L nx 0 = 1) ∧
    (hide = false → Full (L + 1) (upd mm L ps.length) (upd lo L (loL L S ps)) (upd pg L (pgL L S ps nx)) (upd st L nx)) := by
  have hroom := B.room hp
  have hnx := B.nx1
  refine ⟨fun L' hL => ?_, fun L' hL i hi => ?_, fun L' hL => ?_, ?_, fun hd L' hL i hi q j hq hj => ?_⟩
  · by_cases e : L' = L
    · subst e
      rw [upd_at, upd_at, upd_at, upd_at]
      exact lvl_of B.asc hp (by omega) hroom.1 hh (fun n h1 h2 => (hz n h1 h2).trans (B.zero n h1 h2))
    · rw [upd_ne _ _ e, upd_ne _ _ e, upd_ne _ _ e, upd_ne _ _ e]
      have hlow := B.low (L' := L') (by omega)
      exact (B.lev L' (by omega)).move (fun n h1 h2 => hc n h1 (by omega)) hz
  · rw [upd_ne mm _ (by omega : L' ≠ L), upd_ne lo _ (by omega : L' ≠ L), upd_ne st _ (by omega : L' ≠ L)]
    by_cases e : L' + 1 = L
    · subst e
      rw [upd_at] at hi ⊢
      rw [upd_at]
      obtain ⟨-, h0, hm, -⟩ := B.more L' rfl
      refine ⟨first_of hp (by omega) h0 hi, fun x hx => ?_⟩
      have hx' : x ∈ (S.drop (fr ps i)).take (ps.getD i 0) := hx
      exact hm x (List.mem_of_mem_drop (List.mem_of_mem_take hx'))
    · rw [upd_ne _ _ e] at hi
      rw [upd_ne _ _ e, upd_ne _ _ e]
      exact B.up L' (by omega) i hi
  · rw [upd_ne mm _ (by omega : L' ≠ L), upd_ne st _ (by omega : L' ≠ L)]
    by_cases e : L' + 1 = L
    · subst e; rw [upd_at]; exact (B.more L' rfl).1
    · rw [upd_ne _ _ e]; exact B.ord L' (by omega)
  · by_cases e : L = 0
    · subst e
      rw [upd_at, upd_at, upd_at, upd_at, if_pos rfl]
      obtain ⟨h1, h2, h3, h4⟩ := B.base rfl
      exact ⟨leaves_of B.asc hp h2 h4, h1⟩
    · rw [upd_ne _ _ (Ne.symm e), upd_ne _ _ (Ne.symm e), upd_ne _ _ (Ne.symm e), upd_ne _ _ (Ne.symm e), if_neg e]
      exact B.leaves (by omega)
  · rw [upd_ne mm _ (by omega : L' ≠ L)] at hj
    rw [upd_ne lo _ (by omega : L' ≠ L), upd_ne st _ (by omega : L' ≠ L)] at hq
    rw [upd_ne lo _ (by omega : L' ≠ L)]
    by_cases e : L' + 1 = L
    · subst e
      rw [upd_at] at hi hq
      rw [upd_at]
      obtain ⟨-, h0, hm, -, hf⟩ := B.more L' rfl
      obtain ⟨hf1, hf2⟩ := hf hd
      obtain ⟨hs1, hs2⟩ := pg_slot hp hi hq
      obtain ⟨hl1, hl2, hl3⟩ := pg_len (nx := nx) hp hi
      have hlt : fr ps i + q < mm L' := by rw [← hf1]; exact (List.getElem?_eq_some_iff.1 hs1).1
      have hj2 := hf2 _ hlt
      rw [hs1] at hj2
      have hjq : j = fr ps i + q := by injection hj2 with hj2; injection hj2 with _ hj2; omega
      have hnext := hf2 (j + 1) hj
      rw [hjq] at hnext ⊢
      by_cases hql : q + 1 < ps.getD i 0
      · refine .inl ⟨st L' + (fr ps i + q + 1), ?_⟩
        show ((S.drop (fr ps i)).take (ps.getD i 0))[q + 1]? = _
        exact get_seg hql (by rw [show fr ps i + (q + 1) = fr ps i + q + 1 by omega]; exact hnext)
      · have hq1 : q + 1 = ps.getD i 0 := by omega
        have hin : i + 1 < ps.length := by
          rcases Nat.lt_or_ge (i + 1) ps.length with h | h
          · exact h
          · have h5 := fr_all ps
            rw [hp.sum, show ps.length = i + 1 by omega] at h5
            omega
        refine .inr ⟨by rw [hl1]; omega, by show decide _ = false; simp; omega, ?_⟩
        show hiL (L' + 1) S ps i = _
        unfold hiL
        rw [if_pos hin, if_neg (by omega), show fr ps (i + 1) = fr ps i + q + 1 by omega]
        exact kat_at hnext
    · rw [upd_ne mm _ e] at hi
      rw [upd_ne pg _ e] at hq
      rw [upd_ne pg _ e]
      exact B.full hd L' (by omega) i hi q j hq hj

/-- The next level done, and more than one node: there is another one to build. -/
theorem Bt.step (B : Bt F l L nx S ks hide st mm lo pg off) (hp : Pt F L S.length ps) (hm : Mv F nx l l') (hh : ∀ i, i < ps.length → Holds (nad F (nx + i)) l' (pgL L S ps nx i)) (ha : Abv L S ps nx hide ps.length ab) (h2 : 2 ≤ ps.length) :
    ∃ st2 mm2 lo2 pg2 off2, Bt F l' (L + 1) (nx + ps.length) ab ks hide st2 mm2 lo2 pg2 off2 := by
  obtain ⟨h1, h3, h4, h5, h6⟩ := B.levels hp hm.low hm.lat hh
  have hroom := B.room hp
  refine ⟨_, _, _, _, _, ⟨hm.nats B.nats, by rw [hm.len]; exact B.big, fun n hn1 hn2 => (hm.lat n hn1 hn2).trans (B.zero n hn1 hn2), ha.asc, fun x hx => ?_, h1, h3, h4, fun e => by omega, fun L' e => ?_, fun _ => h5, h6, hm.rest B.rest, (fun L' hL i hi x hx => by
    by_cases e : L' = L
    · subst e; rw [upd_at] at hi hx; rw [upd_at]; exact pg_cov B.asc hp hi hx
    · rw [upd_ne _ _ e] at hi hx; rw [upd_ne _ _ e]; exact B.hi L' (by omega) i hi x hx)⟩⟩
  · obtain ⟨j, hj, rfl⟩ := ha.mem x hx
    show nx + j < _; omega
  · obtain rfl : L' = L := by omega
    rw [upd_at, upd_at, upd_at]
    refine ⟨rfl, ha.head (by omega), ha.mem, ?_, ha.all⟩
    have hal := ha.len
    rcases Nat.eq_zero_or_pos L' with e0 | e0
    · have h40 := hroom.2 e0
      have hb := (B.base e0).1
      have : cap ab.length ≤ 59 := by unfold cap; split <;> omega
      omega
    · obtain ⟨L2, rfl⟩ : ∃ L2, L' = L2 + 1 := ⟨L' - 1, by omega⟩
      have h7 := cap_step (B.pos e0) (hp.count2 e0 (B.pos e0)) h2 hal
      have h8 := (B.more L2 rfl).2.2.2.1
      omega
/-- The slots become fewer. -/
theorem Bt.fewer (B : Bt F l L nx S ks hide st mm lo pg off) (hp : Pt F L S.length ps) (ha : Abv L S ps nx hide ps.length ab) (h2 : 2 ≤ ps.length) : ab.length < S.length + (if L = 0 then 1 else 0) := by
  have hal := ha.len
  rcases Nat.eq_zero_or_pos L with e | e
  · rw [if_pos e]
    rcases hp.count with h | h <;> omega
  · rw [if_neg (by omega)]
    have := hp.count2 e (B.pos e)
    omega
/-- One node: the tree is done, once its number and its height are stored. -/
theorem Bt.fin (B : Bt F l L nx S ks hide st mm lo pg off) (hp : Pt F L S.length ps) (h4 : 4 ≤ F) (h6 : F ≤ 6) (hm : Mv F nx l l') (hh : ∀ i, i < ps.length → Holds (nad F (nx + i)) l' (pgL L S ps nx i)) (h1' : ps.length = 1) {l2 : List Cel} (hl2 : l2 = putAt (putAt l' 0 ((nx : Int), ⟨#[]⟩, 0)) 4 ((nx : Int), ⟨#[]⟩, 0)) :
    ∃ st2 mm2 lo2 pg2 off2, Tr F l2 (L + 1) st2 mm2 lo2 pg2 ∧ Leaves ks (mm2 0) (lo2 0) (pg2 0) off2 ∧ st2 0 = 1 ∧ (hide = false → Full (L + 1) mm2 lo2 pg2 st2) ∧ Nats l2 ∧ l2.length = l.length ∧ Rest F ks.length l2 ∧ (∀ n, 1 ≤ n → n ≤ 100 → cellAt l2 (nla F n) = cel0) ∧ ∀ L', L' < L + 1 → ∀ i, i < mm2 L' → ∀ x ∈ (pg2 L' i).xs, cov (pg2 L' i) x.1 = true := by
  have hroom := B.room hp
  have hnx := B.nx1
  have hnc : NatCell ((nx : Int), ⟨#[]⟩, 0) := ⟨nx, 0, _, rfl, by omega, by omega⟩
  obtain ⟨a1, a2, a3⟩ := Mv.ctrPoke (nx := 101) h4 h6 (Nat.le_refl _) l' (a := 0) (by omega) _ hnc
  obtain ⟨b1, b2, b3⟩ := Mv.ctrPoke (nx := 101) h4 h6 (Nat.le_refl _) (putAt l' 0 ((nx : Int), ⟨#[]⟩, 0)) (a := 4) (by omega) _ hnc
  have hbig := B.big
  have hlen := hm.len
  have c1 : ∀ n, 1 ≤ n → n < 101 → ∀ r, r < F + 3 → cellAt l2 (nad F n r) = cellAt l' (nad F n r) := fun n hn1 hn2 r hr => by rw [hl2]; exact (b1 n hn1 hn2 r hr).trans (a1 n hn1 hn2 r hr)
  have c2 : ∀ n, 1 ≤ n → n ≤ 100 → cellAt l2 (nla F n) = cellAt l' (nla F n) := fun n hn1 hn2 => by rw [hl2]; exact (b2 n hn1 hn2).trans (a2 n hn1 hn2)
  obtain ⟨h1, h3, h4', h5, h6'⟩ := B.levels (l' := l2) hp (fun n hn1 hn2 r hr => (c1 n hn1 (by omega) r hr).trans (hm.low n hn1 hn2 r hr)) (fun n hn1 hn2 => (c2 n hn1 hn2).trans (hm.lat n hn1 hn2)) (fun i hi r hr => by
    have hl := pg_len (nx := nx) hp hi
    exact (c1 (nx + i) (by omega) (by omega) r (by omega)).trans (hh i hi r hr))
  refine ⟨_, _, _, _, _, ⟨by omega, h1, h3, h4', ?_, ?_, ?_⟩, h5.1, h5.2, h6', by rw [hl2]; exact b3 (a3 (hm.nats B.nats)), by rw [hl2, putAt_length, putAt_length, hlen], ?_, fun n h1 h2 => (c2 n h1 h2).trans ((hm.lat n h1 h2).trans (B.zero n h1 h2)), (fun L' hL i hi x hx => by
    by_cases e : L' = L
    · subst e; rw [upd_at] at hi hx; rw [upd_at]; exact pg_cov B.asc hp hi hx
    · rw [upd_ne _ _ e] at hi hx; rw [upd_ne _ _ e]; exact B.hi L' (by omega) i hi x hx)⟩
  · rw [Nat.add_sub_cancel, upd_at]; exact h1'
  · rw [Nat.add_sub_cancel, upd_at, hl2, cellAt_other (by omega), cellAt_same ⟨by omega, by rw [hlen]; omega⟩]
  · rw [Nat.add_sub_cancel, upd_at, hl2, cellAt_same ⟨by omega, by rw [putAt_length, hlen]; omega⟩]
  · have hr := hm.rest B.rest
    rw [hl2]
    refine ⟨fun i hi => ?_, ?_⟩
    · rw [cellAt_other (by omega), cellAt_other (by omega)]; exact hr.1 i hi
    · rw [cellAt_other (by omega), cellAt_other (by omega)]; exact hr.2
end
/-- The slots of the keys. -/
def slotsOf (ks : List ByteArray) : List Sl := ks.zipIdx.map fun x => (x.1, x.2 + 1)
theorem slotsOf_length (ks : List ByteArray) : (slotsOf ks).length = ks.length := by unfold slotsOf; simp
theorem slotsOf_at {ks : List ByteArray} {i : Nat} {x : Sl} (h : (slotsOf ks)[i]? = some x) : ks[i]? = some x.1 ∧ x.2 = i + 1 := by
  unfold slotsOf at h
  rw [List.getElem?_map, List.getElem?_zipIdx] at h
  cases hk : ks[i]? with
  | none => rw [hk] at h; cases h
  | some k => rw [hk] at h; cases h; exact ⟨rfl, by simp⟩
/-- At the beginning. -/
theorem Bt.start {F : Nat} {l : List Cel} {ks : List ByteArray} {hide : Bool} (hN : Nats l) (hb : 10 + 100 * (F : Int) + 400 ≤ (l.length : Int)) (hz : ∀ n, 1 ≤ n → n ≤ 100 → cellAt l (nla F n) = cel0) (hk : ks.length ≤ 40) (ha : ∀ i a b, ks[i]? = some a → ks[i + 1]? = some b → kl a b = true) (hr : Rest F ks.length l) (st mm : Nat → Nat) (lo : Nat → Nat → ByteArray) (pg : Nat → Nat → Pg) (off : Nat → Nat) : Bt F l 0 1 (slotsOf ks) ks hide st mm lo pg off where
  nats := hN
  big := hb
  zero := hz
  asc := asc_of_get fun i x y hx hy => ha i x.1 y.1 (slotsOf_at hx).1 (slotsOf_at hy).1
  ref := fun x hx => by
    obtain ⟨i, hi⟩ := List.mem_iff_getElem?.1 hx
    obtain ⟨h1, h2⟩ := slotsOf_at hi
    have := (List.getElem?_eq_some_iff.1 h1).1
    omega
  lev := fun L' h => by omega
  up := fun L' h => by omega
  ord := fun L' h => by omega
  base := fun _ => ⟨rfl, slotsOf_length ks, by rw [slotsOf_length]; exact hk, fun i x hx => slotsOf_at hx⟩
  more := fun L' e => by omega
  leaves := fun h => by omega
  full := fun _ L' h => by omega
  rest := hr
  hi := fun L' h => by omega
end
end Go.Proofs.Ythpaolhpkmgelaa
