/-
  How a tree is built level by level: the pages of a level, their low keys, what is entered above, and which cells stay. No program runs here. Condition: a fanout of 4 to 6.
-/
import Derived.Test.YtboieccjikcdiaaDesTree
import Derived.Test.YtboieccjikcdiaaDesKeys
namespace Go.Proofs.Ytboieccjikcdiaa
open Go.RowKit Go.Deep Plain
set_option linter.unusedVariables false

theorem sep_gt {a b : ByteArray} (h : kl a b = true) : kl a (sepB a b) = true := by
  show ltB a.toList (sepB a b).toList = true
  rw [sepB_toList]; unfold sep; rw [if_pos (show ltB a.toList b.toList = true from h)]
  exact sep_lt _ _ h
theorem sep_le {a b : ByteArray} (h : kl a b = true) : kl b (sepB a b) = false := by
  show ltB b.toList (sepB a b).toList = false
  rw [sepB_toList]; unfold sep; rw [if_pos (show ltB a.toList b.toList = true from h)]
  exact take_le _ _

/-- A division of n slots into nodes of level L. -/
structure Pt (F L n : Nat) (ps : List Nat) : Prop where
  ne : 0 < ps.length
  sum : ps.sum = n
  le : ∀ i p : Nat, ps[i]? = some p → p ≤ F
  pos : 0 < n → ∀ i p : Nat, ps[i]? = some p → 1 ≤ p
  two : 1 ≤ L → ∀ i p : Nat, ps[i]? = some p → i + 1 < ps.length → 2 ≤ p
  zero : n = 0 → ps.length = 1
def fr (ps : List Nat) (i : Nat) : Nat := (ps.take i).sum
theorem fr_zero (ps : List Nat) : fr ps 0 = 0 := rfl
theorem fr_step {ps : List Nat} {i p : Nat} (h : ps[i]? = some p) : fr ps (i + 1) = fr ps i + p := by
  unfold fr; rw [List.take_add_one, h]; simp
theorem fr_all (ps : List Nat) : fr ps ps.length = ps.sum := by unfold fr; rw [List.take_length]
theorem fr_mono (ps : List Nat) {i : Nat} : ∀ {j : Nat}, i ≤ j → fr ps i ≤ fr ps j
  | 0, h => by obtain rfl : i = 0 := by omega
               exact Nat.le_refl _
  | j + 1, h => by
    by_cases e : i = j + 1
    · subst e; exact Nat.le_refl _
    · have := fr_mono ps (i := i) (j := j) (by omega)
      cases hp : ps[j]? with
      | none => unfold fr at *; rw [List.take_add_one, hp]; simpa using this
      | some p => rw [fr_step hp]; omega
theorem fr_le {F L n : Nat} {ps : List Nat} (h : Pt F L n ps) {i : Nat} (hi : i ≤ ps.length) : fr ps i ≤ n := by
  have := fr_mono ps hi; rw [fr_all, h.sum] at this; exact this
theorem get_ps {ps : List Nat} {i : Nat} (h : i < ps.length) : ∃ p, ps[i]? = some p ∧ ps.getD i 0 = p := ⟨ps[i], List.getElem?_eq_getElem h, by rw [List.getD_eq_getElem?_getD, List.getElem?_eq_getElem h]; rfl⟩
/-- Between two nodes there are slots on both sides. -/
theorem fr_lt {F L n : Nat} {ps : List Nat} (h : Pt F L n ps) {i : Nat} (hi : i + 1 < ps.length) : fr ps i < fr ps (i + 1) ∧ fr ps (i + 1) < n := by
  have hn : 0 < n := by
    rcases Nat.eq_zero_or_pos n with e | e
    · have := h.zero e; omega
    · exact e
  obtain ⟨p, hp, -⟩ := get_ps (ps := ps) (i := i) (by omega)
  obtain ⟨q, hq, -⟩ := get_ps (ps := ps) (i := i + 1) hi
  have h1 := h.pos hn i p hp
  have h2 := h.pos hn (i + 1) q hq
  have h3 := fr_step hp
  have h4 := fr_step hq
  have h5 := fr_le h (i := i + 1 + 1) (by omega)
  omega
theorem fr_two {F L n : Nat} {ps : List Nat} (h : Pt F L n ps) (hL : 1 ≤ L) : ∀ i, i + 1 ≤ ps.length → 2 * i ≤ fr ps i
  | 0, _ => by omega
  | i + 1, hi => by
    have ih := fr_two h hL i (by omega)
    obtain ⟨p, hp, -⟩ := get_ps (ps := ps) (i := i) (by omega)
    have h1 := h.two hL i p hp (by omega)
    rw [fr_step hp]; omega
theorem fr_one {F L n : Nat} {ps : List Nat} (h : Pt F L n ps) (hn : 0 < n) : ∀ i, i ≤ ps.length → i ≤ fr ps i
  | 0, _ => by omega
  | i + 1, hi => by
    have ih := fr_one h hn i (by omega)
    obtain ⟨p, hp, -⟩ := get_ps (ps := ps) (i := i) (by omega)
    have h1 := h.pos hn i p hp
    rw [fr_step hp]; omega
/-- How many nodes there are. -/
theorem Pt.count {F L n : Nat} {ps : List Nat} (h : Pt F L n ps) : ps.length ≤ n ∨ ps.length = 1 := by
  rcases Nat.eq_zero_or_pos n with e | e
  · exact .inr (h.zero e)
  · have := fr_one h e ps.length (Nat.le_refl _)
    rw [fr_all, h.sum] at this; exact .inl this
theorem Pt.count2 {F L n : Nat} {ps : List Nat} (h : Pt F L n ps) (hL : 1 ≤ L) (hn : 0 < n) : 2 * ps.length ≤ n + 1 := by
  have hne := h.ne
  have h1 := fr_two h hL (ps.length - 1) (by omega)
  obtain ⟨p, hp, -⟩ := get_ps (ps := ps) (i := ps.length - 1) (by omega)
  have h2 := h.pos hn _ p hp
  have h3 := fr_step hp
  rw [show ps.length - 1 + 1 = ps.length by omega, fr_all, h.sum] at h3
  omega

def kat (S : List Sl) (i : Nat) : ByteArray := (S.getD i (⟨#[]⟩, 0)).1
theorem kat_at {S : List Sl} {i : Nat} {x : Sl} (h : S[i]? = some x) : kat S i = x.1 := by unfold kat; rw [List.getD_eq_getElem?_getD, h]; rfl
theorem kat_get {S : List Sl} {i : Nat} (h : i < S.length) : ∃ r, S[i]? = some (kat S i, r) := by
  have h1 := List.getElem?_eq_getElem h
  exact ⟨(S[i]).2, by rw [kat_at h1, h1]⟩
theorem kat_lt {S : List Sl} (ha : Asc S) {i j : Nat} (hij : i < j) (hj : j < S.length) : kl (kat S i) (kat S j) = true := by
  obtain ⟨r, hr⟩ := kat_get (S := S) (i := i) (by omega)
  obtain ⟨q, hq⟩ := kat_get hj
  have := asc_get ha hij hr hq
  exact this
theorem kat_le {S : List Sl} (ha : Asc S) {i j : Nat} (hij : i ≤ j) (hj : j < S.length) : kl (kat S j) (kat S i) = false := by
  by_cases e : i = j
  · subst e; exact kl_self _
  · exact kl_asymm (kat_lt ha (by omega) hj)
/-- The high key of node i of a level, its low key, its page. -/
def hiL (L : Nat) (S : List Sl) (ps : List Nat) (i : Nat) : ByteArray := if i + 1 < ps.length then (if L = 0 then sepB (kat S (fr ps (i + 1) - 1)) (kat S (fr ps (i + 1))) else kat S (fr ps (i + 1))) else ⟨#[]⟩
def loL (L : Nat) (S : List Sl) (ps : List Nat) (i : Nat) : ByteArray := if i = 0 then ⟨#[]⟩ else hiL L S ps (i - 1)
def pgL (L : Nat) (S : List Sl) (ps : List Nat) (nx i : Nat) : Pg := ⟨L, hiL L S ps i, decide (i + 1 = ps.length), if i + 1 < ps.length then nx + i + 1 else 0, (S.drop (fr ps i)).take (ps.getD i 0)⟩
theorem loL_succ (L : Nat) (S : List Sl) (ps : List Nat) (i : Nat) : loL L S ps (i + 1) = hiL L S ps i := by unfold loL; rw [if_neg (by omega), Nat.add_sub_cancel]
section
variable {F L nx : Nat} {S : List Sl} {ps : List Nat}
theorem hi_gt (ha : Asc S) (h : Pt F L S.length ps) {i : Nat} (hi : i + 1 < ps.length) : kl (kat S (fr ps (i + 1) - 1)) (hiL L S ps i) = true ∧ kl (kat S (fr ps (i + 1))) (hiL L S ps i) = false := by
  obtain ⟨h1, h2⟩ := fr_lt h hi
  have h3 := kat_lt ha (i := fr ps (i + 1) - 1) (j := fr ps (i + 1)) (by omega) h2
  unfold hiL; rw [if_pos hi]
  split
  · exact ⟨sep_gt h3, sep_le h3⟩
  · exact ⟨h3, kl_self _⟩
theorem lo_le (ha : Asc S) (h : Pt F L S.length ps) {i : Nat} (hi : i < ps.length) {j : Nat} (hj : fr ps i ≤ j) (hjn : j < S.length) : kl (kat S j) (loL L S ps i) = false := by
  cases i with
  | zero => unfold loL; rw [if_pos rfl]; exact kl_nil _
  | succ i =>
    rw [loL_succ]
    have h1 := (hi_gt ha h hi).2
    exact kl_le_le h1 (kat_le ha hj hjn)
theorem lo_asc (ha : Asc S) (h : Pt F L S.length ps) {i : Nat} (hi : i + 1 < ps.length) : kl (loL L S ps i) (loL L S ps (i + 1)) = true := by
  obtain ⟨h1, h2⟩ := fr_lt h hi
  have h3 := lo_le ha h (i := i) (by omega) (j := fr ps (i + 1) - 1) (by omega) (by omega)
  rw [loL_succ]
  exact kl_le_lt h3 (hi_gt ha h hi).1
theorem lo_mono (ha : Asc S) (h : Pt F L S.length ps) {i : Nat} : ∀ {j : Nat}, i < j → j < ps.length → kl (loL L S ps i) (loL L S ps j) = true
  | 0, hij, _ => by omega
  | j + 1, hij, hj => by
    by_cases e : i = j
    · subst e; exact lo_asc ha h hj
    · exact kl_trans (lo_mono ha h (j := j) (by omega) (by omega)) (lo_asc ha h hj)
/-- A slot of page i. -/
theorem pg_slot (h : Pt F L S.length ps) {i q : Nat} {x : Sl} (hi : i < ps.length) (hx : (pgL L S ps nx i).xs[q]? = some x) : S[fr ps i + q]? = some x ∧ fr ps i + q < fr ps (i + 1) := by
  obtain ⟨p, hp, hpd⟩ := get_ps hi
  have hx' : ((S.drop (fr ps i)).take (ps.getD i 0))[q]? = some x := hx
  rw [hpd] at hx'
  obtain ⟨h1, h2⟩ := seg_get hx'
  exact ⟨h2, by rw [fr_step hp]; omega⟩
theorem pg_len (h : Pt F L S.length ps) {i : Nat} (hi : i < ps.length) : (pgL L S ps nx i).xs.length = ps.getD i 0 ∧ fr ps (i + 1) = fr ps i + ps.getD i 0 ∧ ps.getD i 0 ≤ F := by
  obtain ⟨p, hp, hpd⟩ := get_ps hi
  have h1 := fr_step hp
  have h2 := fr_le h (i := i + 1) (by omega)
  refine ⟨?_, by rw [hpd]; exact h1, by rw [hpd]; exact h.le i p hp⟩
  show ((S.drop (fr ps i)).take (ps.getD i 0)).length = ps.getD i 0
  rw [List.length_take, List.length_drop, hpd]; omega
theorem pg_wf (i : Nat) : Wf (pgL L S ps nx i) := fun h => by
  have h' : i + 1 = ps.length := by simpa [pgL] using h
  show hiL L S ps i = _
  unfold hiL; rw [if_neg (by omega)]
theorem pg_asc (ha : Asc S) (i : Nat) : Asc (pgL L S ps nx i).xs := asc_seg ha _ _
theorem pg_fits (h : Pt F L S.length ps) (hF : F ≤ 1000) (hL : L ≤ 1000) (hnx : nx + ps.length ≤ 1000) (hS : ∀ x ∈ S, x.2 < 18446744073709551616) {i : Nat} (hi : i < ps.length) : Fits (pgL L S ps nx i) := by
  obtain ⟨h1, -, h3⟩ := pg_len (nx := nx) h hi
  refine ⟨by show L < _; omega, ?_, fun x hx => ?_, by rw [h1]; omega⟩
  · show (if i + 1 < ps.length then nx + i + 1 else 0) < _
    split <;> omega
  · have hx' : x ∈ (S.drop (fr ps i)).take (ps.getD i 0) := hx
    exact hS x (List.mem_of_mem_drop (List.mem_of_mem_take hx'))

/-- A level whose pages lie in the cells. -/
theorem lvl_of {l : List Cel} (ha : Asc S) (h : Pt F L S.length ps) (h1 : 1 ≤ nx) (h2 : nx + ps.length ≤ 101) (hh : ∀ i, i < ps.length → Holds (nad F (nx + i)) l (pgL L S ps nx i)) (hz : ∀ n, 1 ≤ n → n ≤ 100 → cellAt l (nla F n) = cel0) : Lvl F l nx ps.length L (loL L S ps) (pgL L S ps nx) where
  s1 := h1
  pos := h.ne
  top := h2
  nd := fun i hi => ⟨by omega, hh i hi, ⟨0, by rw [hz _ (by omega) (by omega)]; rfl, by decide⟩, pg_wf i, by rw [(pg_len h hi).1]; exact (pg_len (nx := nx) h hi).2.2, pg_asc ha i⟩
  lv := fun i hi => rfl
  low0 := by unfold loL; rw [if_pos rfl]
  next := fun i hi => ⟨by show decide _ = false; simp; omega, by show (if i + 1 < ps.length then nx + i + 1 else 0) = _; rw [if_pos hi], by rw [loL_succ]; rfl⟩
  asc := fun i hi => lo_asc ha h hi
  last := fun i hi => ⟨by show decide _ = true; simp [hi], by show (if i + 1 < ps.length then nx + i + 1 else 0) = _; rw [if_neg (by omega)]⟩
/-- The first slot of a node above the leaves has its low key. -/
theorem first_of (h : Pt F L S.length ps) (hL : 1 ≤ L) {r0 : Nat} (h0 : S[0]? = some (⟨#[]⟩, r0)) {i : Nat} (hi : i < ps.length) : ∃ r, (pgL L S ps nx i).xs[0]? = some (loL L S ps i, r) := by
  have hn : 0 < S.length := (List.getElem?_eq_some_iff.1 h0).1
  obtain ⟨p, hp, hpd⟩ := get_ps hi
  have hp1 := h.pos hn i p hp
  have h4 := fr_le h (i := i + 1) (by omega)
  rw [fr_step hp] at h4
  have key : ∀ x, S[fr ps i]? = some x → (pgL L S ps nx i).xs[0]? = some x := fun x hx => by
    show ((S.drop (fr ps i)).take (ps.getD i 0))[0]? = some x
    rw [hpd]; exact get_seg (by omega) (by rw [Nat.add_zero]; exact hx)
  cases i with
  | zero => exact ⟨r0, by rw [key _ h0]; unfold loL; rw [if_pos rfl]⟩
  | succ i =>
    obtain ⟨r, hr⟩ := kat_get (S := S) (i := fr ps (i + 1)) (by omega)
    refine ⟨r, ?_⟩
    rw [key _ hr, loL_succ]
    unfold hiL; rw [if_pos hi, if_neg (by omega)]
/-- The leaves hold the keys. -/
theorem leaves_of {ks : List ByteArray} (ha : Asc S) (h : Pt F 0 S.length ps) (hS : S.length = ks.length) (hk : ∀ i x, S[i]? = some x → ks[i]? = some x.1 ∧ x.2 = i + 1) : Leaves ks ps.length (loL 0 S ps) (pgL 0 S ps nx) (fr ps) where
  zero := rfl
  all := by rw [fr_all, h.sum, hS]
  step := fun i hi => by rw [(pg_len h hi).1]; exact (pg_len (nx := nx) h hi).2.1
  slot := fun i hi q x hx => hk _ _ (pg_slot h hi hx).1
  low := fun i hi x hx => by
    obtain ⟨q, hq⟩ := List.mem_iff_getElem?.1 hx
    obtain ⟨h1, h2⟩ := pg_slot h hi hq
    have := lo_le ha h hi (j := fr ps i + q) (by omega) (List.getElem?_eq_some_iff.1 h1).1
    rwa [kat_at h1] at this
  high := fun i hi x hx => by
    obtain ⟨q, hq⟩ := List.mem_iff_getElem?.1 hx
    obtain ⟨h1, h2⟩ := pg_slot h hi hq
    unfold cov
    by_cases e : i + 1 = ps.length
    · rw [show (pgL 0 S ps nx i).la = true from by show decide _ = true; simp [e], Bool.true_or]
    · have h3 := (hi_gt ha h (i := i) (by omega)).1
      have h4 := kat_le ha (i := fr ps i + q) (j := fr ps (i + 1) - 1) (by omega) (by have := fr_le h (i := i + 1) (by omega); omega)
      rw [kat_at h1] at h4
      rw [show kl x.1 (pgL 0 S ps nx i).hi = true from kl_le_lt h4 h3, Bool.or_true]

/-- What is entered above of the first i nodes. -/
structure Abv (L : Nat) (S : List Sl) (ps : List Nat) (nx : Nat) (hide : Bool) (i : Nat) (ab : List Sl) : Prop where
  mem : ∀ x ∈ ab, ∃ j, j < i ∧ x = (loL L S ps j, nx + j)
  head : 0 < i → ab[0]? = some (⟨#[]⟩, nx)
  len : ab.length ≤ i
  asc : Asc ab
  all : hide = false → ab.length = i ∧ ∀ j, j < i → ab[j]? = some (loL L S ps j, nx + j)
theorem Abv.nil (hide : Bool) : Abv L S ps nx hide 0 [] := ⟨fun x h => by simp at h, fun h => by omega, Nat.le_refl _, trivial, fun _ => ⟨rfl, fun j h => by omega⟩⟩
theorem Abv.out {hide : Bool} {i : Nat} {ab : List Sl} (h : Abv L S ps nx hide i ab) (hi : 0 < i) (hh : hide = true) : Abv L S ps nx hide (i + 1) ab :=
  ⟨fun x hx => by obtain ⟨j, h1, h2⟩ := h.mem x hx; exact ⟨j, by omega, h2⟩, fun _ => h.head hi, by have := h.len; omega, h.asc, fun e => by rw [hh] at e; cases e⟩
theorem asc_snoc : ∀ {xs : List Sl} {y : Sl}, Asc xs → (∀ x ∈ xs, lt x y.1 = true) → Asc (xs ++ [y])
  | [], y, _, _ => trivial
  | [x], y, _, h => ⟨h x (by simp), trivial⟩
  | x :: z :: r, y, ha, h => ⟨ha.1, asc_snoc (xs := z :: r) ha.2 fun a hm => h a (List.mem_cons_of_mem _ hm)⟩
theorem Abv.enter {hide : Bool} {i : Nat} {ab : List Sl} (h : Abv L S ps nx hide i ab) (ha : Asc S) (hp : Pt F L S.length ps) (hi : i < ps.length) : Abv L S ps nx hide (i + 1) (ab ++ [(loL L S ps i, nx + i)]) := by
  refine ⟨fun x hx => ?_, fun _ => ?_, by have := h.len; rw [List.length_append]; simp; omega, asc_snoc h.asc fun x hx => ?_, fun e => ?_⟩
  · rcases List.mem_append.1 hx with hx | hx
    · obtain ⟨j, h1, h2⟩ := h.mem x hx; exact ⟨j, by omega, h2⟩
    · exact ⟨i, by omega, by simpa using hx⟩
  · rcases Nat.eq_zero_or_pos i with e | e
    · subst e
      have h0 : ab = [] := List.eq_nil_of_length_eq_zero (by have := h.len; omega)
      subst h0
      show some (loL L S ps 0, nx + 0) = _
      unfold loL; rw [if_pos rfl, Nat.add_zero]
    · have := h.head e
      rw [List.getElem?_append_left (List.getElem?_eq_some_iff.1 this).1]; exact this
  · obtain ⟨j, h1, rfl⟩ := h.mem x hx
    exact lo_mono ha hp h1 hi
  · obtain ⟨h1, h2⟩ := h.all e
    refine ⟨by rw [List.length_append, h1]; rfl, fun j hj => ?_⟩
    by_cases ej : j = i
    · subst ej
      rw [List.getElem?_append_right (by omega), h1, Nat.sub_self]; rfl
    · rw [List.getElem?_append_left (by omega)]; exact h2 j (by omega)
end

/-- Stores into nodes from nx on leave the rest as it was. -/
structure Mv (F nx : Nat) (l l' : List Cel) : Prop where
  len : l'.length = l.length
  low : ∀ n, 1 ≤ n → n < nx → ∀ r, r < F + 3 → cellAt l' (nad F n r) = cellAt l (nad F n r)
  lat : ∀ n, 1 ≤ n → n ≤ 100 → cellAt l' (nla F n) = cellAt l (nla F n)
  ctr : ∀ i : Int, 0 ≤ i → i < 10 → cellAt l' i = cellAt l i
  nats : Nats l → Nats l'
theorem Mv.refl (F nx : Nat) (l : List Cel) : Mv F nx l l := ⟨rfl, fun _ _ _ _ _ => rfl, fun _ _ _ => rfl, fun _ _ _ => rfl, id⟩
theorem Mv.trans {F nx nx2 : Nat} {l l1 l2 : List Cel} (h : Mv F nx l l1) (k : Mv F nx2 l1 l2) (hn : nx ≤ nx2) : Mv F nx l l2 :=
  ⟨k.len.trans h.len, fun n h1 h2 r hr => (k.low n h1 (by omega) r hr).trans (h.low n h1 h2 r hr), fun n h1 h2 => (k.lat n h1 h2).trans (h.lat n h1 h2), fun i h1 h2 => (k.ctr i h1 h2).trans (h.ctr i h1 h2), fun hn => k.nats (h.nats hn)⟩
theorem nla_lin {F n : Nat} (h4 : 4 ≤ F) (h6 : F ≤ 6) (h1 : 1 ≤ n) (h2 : n ≤ 100) : (F = 4 ∧ nla F n = 10 + ((n : Int) - 1) * 8) ∨ (F = 5 ∧ nla F n = 10 + ((n : Int) - 1) * 9) ∨ (F = 6 ∧ nla F n = 10 + ((n : Int) - 1) * 10) := by
  have h := nla_eq (F := F) h1 h2
  rcases (by omega : F = 4 ∨ F = 5 ∨ F = 6) with rfl | rfl | rfl
  · exact .inl ⟨rfl, by omega⟩
  · exact .inr (.inl ⟨rfl, by omega⟩)
  · exact .inr (.inr ⟨rfl, by omega⟩)
theorem nla_far {F n m : Nat} (h4 : 4 ≤ F) (h6 : F ≤ 6) (h1 : 1 ≤ n) (hnm : n < m) (h2 : m ≤ 100) : nla F n + (F : Int) + 4 ≤ nla F m := by
  rcases nla_lin h4 h6 h1 (by omega : n ≤ 100) with ⟨e1, a⟩ | ⟨e1, a⟩ | ⟨e1, a⟩ <;> rcases nla_lin h4 h6 (by omega : 1 ≤ m) h2 with ⟨e2, b⟩ | ⟨e2, b⟩ | ⟨e2, b⟩ <;> omega
theorem Mv.page {F nx n : Nat} (h4 : 4 ≤ F) (h6 : F ≤ 6) (h1 : 1 ≤ nx) (hn : nx ≤ n) (h2 : n ≤ 100) (l : List Cel) {P : Pg} (hP : P.xs.length ≤ F) (hf : Fits P) : Mv F nx l (app l (pst (nad F n) P)) := by
  have had : ∀ r, r < F + 3 → nad F n r = nla F n + 1 + (r : Int) := fun r hr => nad_eq (by omega) h2 hr
  have hpos : 10 ≤ nla F n := by rcases nla_lin h4 h6 (by omega : 1 ≤ n) h2 with ⟨e, a⟩ | ⟨e, a⟩ | ⟨e, a⟩ <;> omega
  refine ⟨app_length _ _, fun m hm1 hm2 r hr => app_other _ _ fun s hs e => ?_, fun m hm1 hm2 => app_other _ _ fun s hs e => ?_, fun i hi1 hi2 => app_other _ _ fun s hs e => ?_, fun hN => hN.app (hf.pstN _)⟩
  · obtain ⟨q, hq, rfl⟩ := pst_addr hs
    have e' : nad F n q = nad F m r := e
    rw [had q (by omega), nad_eq hm1 (by omega) hr] at e'
    have := nla_far h4 h6 hm1 (by omega : m < n) h2
    omega
  · obtain ⟨q, hq, rfl⟩ := pst_addr hs
    have e' : nad F n q = nla F m := e
    rw [had q (by omega)] at e'
    rcases Nat.lt_trichotomy m n with h | h | h
    · have := nla_far h4 h6 hm1 h h2; omega
    · subst h; omega
    · have := nla_far h4 h6 (by omega : 1 ≤ n) h hm2; omega
  · obtain ⟨q, hq, rfl⟩ := pst_addr hs
    have e' : nad F n q = i := e
    rw [had q (by omega)] at e'
    omega
theorem Mv.ctrPoke {F nx : Nat} (h4 : 4 ≤ F) (h6 : F ≤ 6) (hnx : nx ≤ 101) (l : List Cel) {a : Int} (ha : 0 ≤ a ∧ a < 10) (c : Cel) (hc : NatCell c) : (∀ n, 1 ≤ n → n < nx → ∀ r, r < F + 3 → cellAt (putAt l a c) (nad F n r) = cellAt l (nad F n r)) ∧ (∀ n, 1 ≤ n → n ≤ 100 → cellAt (putAt l a c) (nla F n) = cellAt l (nla F n)) ∧ (Nats l → Nats (putAt l a c)) := by
  refine ⟨fun n h1 h2 r hr => cellAt_other (fun e => ?_) _, fun n h1 h2 => cellAt_other (fun e => ?_) _, fun hN => hN.put _ hc⟩
  · rw [nad_eq h1 (by omega) hr] at e
    rcases nla_lin h4 h6 h1 (by omega : n ≤ 100) with ⟨e2, b⟩ | ⟨e2, b⟩ | ⟨e2, b⟩ <;> omega
  · rcases nla_lin h4 h6 h1 h2 with ⟨e2, b⟩ | ⟨e2, b⟩ | ⟨e2, b⟩ <;> omega
theorem Nd.move {F n : Nat} {l l' : List Cel} {P : Pg} (h : Nd F l n P) (hc : ∀ r, r < F + 3 → cellAt l' (nad F n r) = cellAt l (nad F n r)) (hz : cellAt l' (nla F n) = cellAt l (nla F n)) : Nd F l' n P :=
  ⟨h.ne, fun r hr => (hc r (by have := h.len; omega)).trans (h.holds r hr), by rw [hz]; exact h.lat, h.wf, h.len, h.asc⟩
theorem Lvl.move {F : Nat} {l l' : List Cel} {s m L : Nat} {lo : Nat → ByteArray} {pg : Nat → Pg} (h : Lvl F l s m L lo pg) (hc : ∀ n, 1 ≤ n → n < s + m → ∀ r, r < F + 3 → cellAt l' (nad F n r) = cellAt l (nad F n r)) (hz : ∀ n, 1 ≤ n → n ≤ 100 → cellAt l' (nla F n) = cellAt l (nla F n)) : Lvl F l' s m L lo pg :=
  ⟨h.s1, h.pos, h.top, fun i hi => (h.nd i hi).move (hc _ (by have := h.s1; omega) (by omega)) (hz _ (by have := h.s1; omega) (by have := h.top; omega)), h.lv, h.low0, h.next, h.asc, h.last⟩
end Go.Proofs.Ytboieccjikcdiaa
