/-
  Plain facts about chains of versions in a memory: the records that a chain number leads to, what stores to records and to the chain's own cell change of it, and what a reader of a chain can rely on while a writer works on it. No program is spoken of. Condition: none.
-/
import Derived.Test.YtpamjbjgckaedaaLayPlain
import Derived.Test.YtpamjbjgckaedaaRecPlain
namespace Go.Proofs.Ytpamjbjgckaedaa
open Plain
set_option linter.unusedVariables false

theorem cellAt_put (l : List Cel) (i j : Int) (c : Cel) : cellAt (putAt l i c) j = if i = j ∧ 0 ≤ i ∧ i < l.length then c else cellAt l j := by
  unfold putAt cellAt
  by_cases hi : 0 ≤ i
  · rw [if_pos hi]
    by_cases hj : 0 ≤ j
    · rw [if_pos hj, if_pos hj, List.getD_eq_getElem?_getD, List.getD_eq_getElem?_getD]
      by_cases hij : i = j
      · subst hij
        by_cases hl : i < l.length
        · rw [if_pos ⟨rfl, hi, hl⟩, List.getElem?_set_self (by omega)]; rfl
        · rw [if_neg (by omega), List.set_eq_of_length_le (by omega)]
      · rw [if_neg (fun h => hij h.1), List.getElem?_set_ne (by omega)]
    · have hn : ¬ (i = j ∧ 0 ≤ i ∧ i < l.length) := by omega
      rw [if_neg hj, if_neg hj, if_neg hn]
  · rw [if_neg hi, if_neg (by omega : ¬ (i = j ∧ 0 ≤ i ∧ i < l.length))]
theorem cellAt_far {l : List Cel} {i j : Int} (h : i ≠ j) (c : Cel) : cellAt (putAt l i c) j = cellAt l j := by rw [cellAt_put, if_neg (fun e => h e.1)]
theorem cellAt_own {l : List Cel} {i : Int} (h0 : 0 ≤ i) (h1 : i < l.length) (c : Cel) : cellAt (putAt l i c) i = c := by rw [cellAt_put, if_pos ⟨rfl, h0, h1⟩]

/-- Where the chains and the records lie in a memory of n cells: C chains from b on, R records from d on. -/
structure Geo (C R b d : Int) (n : Nat) : Prop where
  b0 : 0 ≤ b
  bd : b + C ≤ d
  dn : d + R * 3 ≤ n
  c0 : 0 ≤ C
  r0 : 0 ≤ R

theorem rec_at {R d : Int} {q : Nat} (h1 : 1 ≤ q) (h2 : (q : Int) ≤ R) (p : Int) : recAt R d q p = d + ((q : Int) - 1) * 3 + p := by unfold recAt; rw [if_pos (by omega)]
theorem rec_ne {R d : Int} {q r : Nat} {p s : Int} (hq : 1 ≤ q ∧ (q : Int) ≤ R) (hr : 1 ≤ r ∧ (r : Int) ≤ R) (hp : 0 ≤ p ∧ p < 3) (hs : 0 ≤ s ∧ s < 3) (h : q ≠ r ∨ p ≠ s) : recAt R d q p ≠ recAt R d r s := by
  rw [rec_at hq.1 hq.2, rec_at hr.1 hr.2]; omega
theorem Geo.in {C R b d : Int} {n q : Nat} (g : Geo C R b d n) (hq : 1 ≤ q ∧ (q : Int) ≤ R) {p : Int} (hp : 0 ≤ p ∧ p < 3) : 0 ≤ recAt R d q p ∧ recAt R d q p < n := by
  have := g.b0; have := g.bd; have := g.dn; have := g.c0
  rw [rec_at hq.1 hq.2]; omega
theorem Geo.chain {C R b d : Int} {n q : Nat} (g : Geo C R b d n) (c : Nat) (hq : 1 ≤ q ∧ (q : Int) ≤ R) {p : Int} (hp : 0 ≤ p ∧ p < 3) : chainAt C b c ≠ recAt R d q p := by
  have := g.b0; have := g.bd; have := g.c0
  rw [rec_at hq.1 hq.2]
  unfold chainAt
  split <;> omega
theorem Geo.cin {C R b d : Int} {n c : Nat} (g : Geo C R b d n) (h : 1 ≤ c ∧ (c : Int) ≤ C) : 0 ≤ chainAt C b c ∧ chainAt C b c < n := by
  have := g.b0; have := g.bd; have := g.dn; have := g.r0
  unfold chainAt; rw [if_pos (by omega)]
  have : 0 ≤ R * 3 := by omega
  omega

/-- Record q holds the version v, and nx is the next older one. -/
structure RecIs (R d : Int) (l : List Cel) (q : Nat) (v : Ve) (nx : Nat) : Prop where
  lo : 1 ≤ q
  hi : (q : Int) ≤ R
  stamp : (cellAt l (recAt R d q 0)).1 = (v.1 : Int)
  val : (cellAt l (recAt R d q 1)).2.1 = v.2.1
  del : (cellAt l (recAt R d q 1)).2.2 = if v.2.2 = true then 1 else 0
  next : (cellAt l (recAt R d q 2)).1 = (nx : Int)
/-- The number of a row's record i, or 0. -/
def num (rs : List (Nat × Ve)) (i : Nat) : Nat := match rs[i]? with | some x => x.1 | none => 0
theorem num_some {rs : List (Nat × Ve)} {i : Nat} {x : Nat × Ve} (h : rs[i]? = some x) : num rs i = x.1 := by unfold num; rw [h]
theorem num_none {rs : List (Nat × Ve)} {i : Nat} (h : rs.length ≤ i) : num rs i = 0 := by unfold num; rw [List.getElem?_eq_none h]
theorem num_cons {x : Nat × Ve} {rs : List (Nat × Ve)} {i : Nat} : num (x :: rs) (i + 1) = num rs i := rfl
theorem num_take {rs : List (Nat × Ve)} {i k : Nat} (h : i < k) : num (rs.take k) i = num rs i := by unfold num; rw [List.getElem?_take, if_pos h]
/-- From record r on the memory holds just these versions. -/
structure Lnk (R d : Int) (l : List Cel) (rs : List (Nat × Ve)) (r : Nat) : Prop where
  head : r = num rs 0
  recs : ∀ (i q : Nat) (v : Ve), rs[i]? = some (q, v) → RecIs R d l q v (num rs (i + 1))
theorem Lnk.nil (R d : Int) (l : List Cel) : Lnk R d l [] 0 := ⟨rfl, fun i q v h => by simp at h⟩
theorem Lnk.pos {R d : Int} {l : List Cel} {rs : List (Nat × Ve)} {r i : Nat} (h : Lnk R d l rs r) (hi : i < rs.length) : 1 ≤ num rs i ∧ (num rs i : Int) ≤ R := by
  have hx : rs[i]? = some rs[i] := List.getElem?_eq_getElem hi
  have := h.recs i rs[i].1 rs[i].2 hx
  rw [num_some hx]; exact ⟨this.lo, this.hi⟩
theorem Lnk.zero {R d : Int} {l : List Cel} {rs : List (Nat × Ve)} {r i : Nat} (h : Lnk R d l rs r) : num rs i = 0 ↔ rs.length ≤ i := by
  constructor
  · intro h0
    refine Nat.le_of_not_lt fun hlt => ?_
    have := (h.pos hlt).1; omega
  · exact num_none

/-- Numbers that descend along the row. -/
def DescN (rs : List (Nat × Ve)) : Prop := ∀ (i : Nat) (x y : Nat × Ve), rs[i]? = some x → rs[i + 1]? = some y → y.1 < x.1
theorem DescN.far {rs : List (Nat × Ve)} (h : DescN rs) : ∀ (k i : Nat) (x y : Nat × Ve), rs[i]? = some x → rs[i + k + 1]? = some y → y.1 < x.1
  | 0, i, x, y, hx, hy => h i x y hx hy
  | k + 1, i, x, y, hx, hy => by
    have hl := (List.getElem?_eq_some_iff.1 hy).1
    have hz : rs[i + k + 1]? = some rs[i + k + 1] := List.getElem?_eq_getElem (by omega)
    have h1 := h.far k i x _ hx hz
    have h2 := h (i + k + 1) _ y hz (by rw [← hy]; congr 1)
    omega
theorem DescN.inj {rs : List (Nat × Ve)} (h : DescN rs) {i j : Nat} {x y : Nat × Ve} (hx : rs[i]? = some x) (hy : rs[j]? = some y) (e : x.1 = y.1) : i = j := by
  rcases Nat.lt_trichotomy i j with hlt | heq | hgt
  · have := h.far (j - i - 1) i x y hx (by rw [← hy]; congr 1; omega); omega
  · exact heq
  · have := h.far (i - j - 1) j y x hy (by rw [← hx]; congr 1; omega); omega
theorem DescN.take {rs : List (Nat × Ve)} (h : DescN rs) (k : Nat) : DescN (rs.take k) := fun i x y hx hy => by
  rw [List.getElem?_take] at hx hy
  split at hx
  · split at hy
    · exact h i x y hx hy
    · cases hy
  · cases hx
theorem DescN.cons {rs : List (Nat × Ve)} (h : DescN rs) {x : Nat × Ve} (hx : num rs 0 < x.1) : DescN (x :: rs) := fun i a c ha hc => by
  rw [List.getElem?_cons_succ] at hc
  cases i with
  | zero => simp at ha; subst ha; rw [num_some hc] at hx; exact hx
  | succ i => rw [List.getElem?_cons_succ] at ha; exact h i a c ha hc
theorem DescN.le {rs : List (Nat × Ve)} (h : DescN rs) {i : Nat} {x : Nat × Ve} (hx : rs[i]? = some x) : x.1 ≤ num rs 0 := by
  have hl := (List.getElem?_eq_some_iff.1 hx).1
  cases i with
  | zero => rw [num_some hx]; exact Nat.le_refl _
  | succ i =>
    have hz : rs[0]? = some rs[0] := List.getElem?_eq_getElem (by omega)
    have := h.far i 0 _ x hz (by rw [← hx]; congr 1; omega)
    rw [num_some hz]; omega

section
variable {C R b d : Int} {l : List Cel} {rs : List (Nat × Ve)} {r : Nat}
/-- A store to a cell of no record of the row. -/
theorem Lnk.far (h : Lnk R d l rs r) {i : Int} (hi : ∀ (j q : Nat) (v : Ve) (p : Int), rs[j]? = some (q, v) → 0 ≤ p ∧ p < 3 → i ≠ recAt R d q p) (c : Cel) : Lnk R d (putAt l i c) rs r :=
  ⟨h.head, fun j q v hq => by
    have k := h.recs j q v hq
    have e0 := cellAt_far (l := l) (hi j q v 0 hq (by omega)) c
    have e1 := cellAt_far (l := l) (hi j q v 1 hq (by omega)) c
    have e2 := cellAt_far (l := l) (hi j q v 2 hq (by omega)) c
    exact ⟨k.lo, k.hi, by rw [e0]; exact k.stamp, by rw [e1]; exact k.val, by rw [e1]; exact k.del, by rw [e2]; exact k.next⟩⟩
/-- A store to another record. -/
theorem Lnk.other (h : Lnk R d l rs r) {n : Nat} {p : Int} (hn : 1 ≤ n ∧ (n : Int) ≤ R) (hp : 0 ≤ p ∧ p < 3) (hx : ∀ x ∈ rs, x.1 ≠ n) (c : Cel) : Lnk R d (putAt l (recAt R d n p) c) rs r :=
  h.far (fun j q v s hq hs => rec_ne hn ⟨(h.recs j q v hq).lo, (h.recs j q v hq).hi⟩ hp hs (.inl fun e => hx _ (List.mem_of_getElem? hq) e.symm)) c
/-- A store to a chain's own cell. -/
theorem Lnk.chain (h : Lnk R d l rs r) {n : Nat} (g : Geo C R b d n) (c0 : Nat) (c : Cel) : Lnk R d (putAt l (chainAt C b c0) c) rs r :=
  h.far (fun j q v s hq hs => g.chain c0 ⟨(h.recs j q v hq).lo, (h.recs j q v hq).hi⟩ hs) c
/-- A record on top. -/
theorem Lnk.push (h : Lnk R d l rs r) {n : Nat} {v : Ve} (hv : RecIs R d l n v r) : Lnk R d l ((n, v) :: rs) n :=
  ⟨rfl, fun i q u hu => by
    cases i with
    | zero => simp at hu; obtain ⟨rfl, rfl⟩ := hu; rw [num_cons, ← h.head]; exact hv
    | succ i => rw [List.getElem?_cons_succ] at hu; exact h.recs i q u hu⟩
/-- The older records behind the first one. -/
theorem Lnk.tail {x : Nat × Ve} (h : Lnk R d l (x :: rs) r) : Lnk R d l rs (num rs 0) := ⟨rfl, fun i q v hq => h.recs (i + 1) q v hq⟩
/-- The first record gets a stamp. -/
theorem Lnk.stamp {n : Nat} {v : Ve} (h : Lnk R d l ((n, v) :: rs) r) (hd : DescN ((n, v) :: rs)) {k : Nat} (g : Geo C R b d k) (hk : l.length = k) (t : Nat) {K : ByteArray} {M : Int} : Lnk R d (putAt l (recAt R d n 0) ((t : Int), K, M)) ((n, (t, v.2)) :: rs) r := by
  have h0 := h.recs 0 n v rfl
  have hn : 1 ≤ n ∧ (n : Int) ≤ R := ⟨h0.lo, h0.hi⟩
  have hin := g.in hn (p := 0) (by omega)
  have ht := h.tail.other hn (p := 0) (by omega) (fun x hx e => by
    obtain ⟨i, hi, rfl⟩ := List.getElem_of_mem hx
    have := hd.inj (i := i + 1) (j := 0) (y := (n, v)) (by rw [List.getElem?_cons_succ]; exact List.getElem?_eq_getElem hi) rfl e
    omega) ((t : Int), K, M)
  have hr : r = n := h.head
  subst hr
  refine ht.push ⟨h0.lo, h0.hi, ?_, ?_, ?_, ?_⟩
  · rw [cellAt_own hin.1 (by rw [hk]; exact hin.2)]
  · rw [cellAt_far (rec_ne hn hn (by omega) (by omega) (.inr (by omega)))]; exact h0.val
  · rw [cellAt_far (rec_ne hn hn (by omega) (by omega) (.inr (by omega)))]; exact h0.del
  · rw [cellAt_far (rec_ne hn hn (by omega) (by omega) (.inr (by omega)))]; exact h0.next
/-- The row is cut behind one of its records. -/
theorem Lnk.cut {p q : Nat} {v : Ve} (h : Lnk R d l rs r) (hd : DescN rs) {k : Nat} (g : Geo C R b d k) (hk : l.length = k) (hp : rs[p]? = some (q, v)) {K : ByteArray} {M : Int} : Lnk R d (putAt l (recAt R d q 2) (0, K, M)) (rs.take (p + 1)) r := by
  have h0 := h.recs p q v hp
  have hq : 1 ≤ q ∧ (q : Int) ≤ R := ⟨h0.lo, h0.hi⟩
  have hin := g.in hq (p := 2) (by omega)
  have hpl := (List.getElem?_eq_some_iff.1 hp).1
  refine ⟨by rw [num_take (by omega)]; exact h.head, fun i q2 u hu => ?_⟩
  rw [List.getElem?_take] at hu
  split at hu
  · rename_i hi
    have k2 := h.recs i q2 u hu
    have hq2 : 1 ≤ q2 ∧ (q2 : Int) ≤ R := ⟨k2.lo, k2.hi⟩
    have e0 := cellAt_far (l := l) (rec_ne (d := d) hq hq2 (p := 2) (s := 0) (by omega) (by omega) (.inr (by omega))) (0, K, M)
    have e1 := cellAt_far (l := l) (rec_ne (d := d) hq hq2 (p := 2) (s := 1) (by omega) (by omega) (.inr (by omega))) (0, K, M)
    refine ⟨k2.lo, k2.hi, by rw [e0]; exact k2.stamp, by rw [e1]; exact k2.val, by rw [e1]; exact k2.del, ?_⟩
    by_cases hip : i = p
    · subst hip
      rw [hp] at hu; cases hu
      rw [cellAt_own hin.1 (by rw [hk]; exact hin.2), num_none (by rw [List.length_take]; omega)]; rfl
    · have hne : q ≠ q2 := fun e => hip (hd.inj (x := (q2, u)) (y := (q, v)) hu hp e.symm)
      rw [cellAt_far (rec_ne hq hq2 (by omega) (by omega) (.inl hne)), num_take (by omega)]
      exact k2.next
  · cases hu
end

/-! ### What a reader can rely on while a writer works -/
/-- Of the records up to top: those above t lead down to t, are pending or have later stamps; those up to t have their own numbers as stamps; and record t holds the value u. -/
structure Way (R d : Int) (l : List Cel) (t top : Nat) (u : ByteArray × Bool) : Prop where
  le : t ≤ top
  hi : (top : Int) ≤ R
  up : ∀ k : Nat, t < k → k ≤ top → (∃ s : Nat, (cellAt l (recAt R d k 0)).1 = (s : Int) ∧ (s = 0 ∨ t < s)) ∧ ∃ nx : Nat, (cellAt l (recAt R d k 2)).1 = (nx : Int) ∧ t ≤ nx ∧ nx < k
  low : ∀ k : Nat, 1 ≤ k → k ≤ t → (cellAt l (recAt R d k 0)).1 = (k : Int) ∧ ∃ nx : Nat, (cellAt l (recAt R d k 2)).1 = (nx : Int) ∧ nx < k
  val : 0 < t → (cellAt l (recAt R d t 1)).2.1 = u.1 ∧ (cellAt l (recAt R d t 1)).2.2 = if u.2 = true then 1 else 0

section
variable {C R b d : Int} {l : List Cel} {t top : Nat} {u : ByteArray × Bool}
theorem Way.far (h : Way R d l t top u) {i : Int} (hi : ∀ (k : Nat) (p : Int), 1 ≤ k → k ≤ top → 0 ≤ p ∧ p < 3 → i ≠ recAt R d k p) (c : Cel) : Way R d (putAt l i c) t top u := by
  have hle := h.le
  refine ⟨h.le, h.hi, fun k h1 h2 => ?_, fun k h1 h2 => ?_, fun h0 => ?_⟩
  · rw [cellAt_far (hi k 0 (by omega) h2 (by omega)), cellAt_far (hi k 2 (by omega) h2 (by omega))]; exact h.up k h1 h2
  · rw [cellAt_far (hi k 0 h1 (by omega) (by omega)), cellAt_far (hi k 2 h1 (by omega) (by omega))]; exact h.low k h1 h2
  · rw [cellAt_far (hi t 1 (by omega) (by omega) (by omega))]; exact h.val h0
/-- A store to a record that is not yet there. -/
theorem Way.fresh (h : Way R d l t top u) {n : Nat} {p : Int} (hn : top < n) (hR : (n : Int) ≤ R) (hp : 0 ≤ p ∧ p < 3) (c : Cel) : Way R d (putAt l (recAt R d n p) c) t top u :=
  h.far (fun k s h1 h2 hs => rec_ne ⟨by omega, hR⟩ ⟨h1, by have := h.hi; omega⟩ hp hs (.inl (by omega))) c
theorem Way.chain (h : Way R d l t top u) {n : Nat} (g : Geo C R b d n) (c0 : Nat) (c : Cel) : Way R d (putAt l (chainAt C b c0) c) t top u :=
  h.far (fun k s h1 h2 hs => g.chain c0 ⟨h1, by have := h.hi; omega⟩ hs) c
/-- One more record. -/
theorem Way.grow (h : Way R d l t top u) (hR : ((top + 1 : Nat) : Int) ≤ R) {s nx : Nat} (hs : (cellAt l (recAt R d (top + 1 : Nat) 0)).1 = (s : Int)) (hs2 : s = 0 ∨ t < s) (hn : (cellAt l (recAt R d (top + 1 : Nat) 2)).1 = (nx : Int)) (hn2 : t ≤ nx ∧ nx ≤ top) : Way R d l t (top + 1) u :=
  ⟨by have := h.le; omega, hR, fun k h1 h2 => by
    by_cases hk : k = top + 1
    · subst hk; exact ⟨⟨s, hs, hs2⟩, nx, hn, hn2.1, by omega⟩
    · exact h.up k h1 (by omega), h.low, h.val⟩
/-- A later record gets a later stamp. -/
theorem Way.stamp (h : Way R d l t top u) {k n s : Nat} (g : Geo C R b d k) (hk : l.length = k) (hn : t < n ∧ n ≤ top) (hs : t < s) {K : ByteArray} {M : Int} : Way R d (putAt l (recAt R d n 0) ((s : Int), K, M)) t top u := by
  have hhi := h.hi
  have hnR : 1 ≤ n ∧ (n : Int) ≤ R := ⟨by omega, by omega⟩
  have hin := g.in hnR (p := 0) (by omega)
  have hle := h.le
  refine ⟨h.le, h.hi, fun k h1 h2 => ?_, fun k h1 h2 => ?_, fun h0 => ?_⟩
  · have hkR : 1 ≤ k ∧ (k : Int) ≤ R := ⟨by omega, by omega⟩
    rw [cellAt_far (i := recAt R d n 0) (j := recAt R d k 2) (rec_ne hnR hkR (by omega) (by omega) (.inr (by omega)))]
    refine ⟨?_, (h.up k h1 h2).2⟩
    by_cases hkn : n = k
    · subst hkn; rw [cellAt_own hin.1 (by rw [hk]; exact hin.2)]; exact ⟨s, rfl, .inr hs⟩
    · rw [cellAt_far (rec_ne hnR hkR (by omega) (by omega) (.inl hkn))]; exact (h.up k h1 h2).1
  · have hkR : 1 ≤ k ∧ (k : Int) ≤ R := ⟨by omega, by omega⟩
    rw [cellAt_far (i := recAt R d n 0) (j := recAt R d k 0) (rec_ne hnR hkR (by omega) (by omega) (.inl (by omega))), cellAt_far (i := recAt R d n 0) (j := recAt R d k 2) (rec_ne hnR hkR (by omega) (by omega) (.inr (by omega)))]; exact h.low k h1 h2
  · have hkR : 1 ≤ t ∧ (t : Int) ≤ R := ⟨by omega, by omega⟩
    rw [cellAt_far (rec_ne hnR hkR (by omega) (by omega) (.inr (by omega)))]; exact h.val h0
/-- The chain is cut behind a record up to t. -/
theorem Way.cut (h : Way R d l t top u) {k n : Nat} (g : Geo C R b d k) (hk : l.length = k) (hn : 1 ≤ n ∧ n ≤ t) {K : ByteArray} {M : Int} : Way R d (putAt l (recAt R d n 2) (0, K, M)) t top u := by
  have hhi := h.hi
  have hle := h.le
  have hnR : 1 ≤ n ∧ (n : Int) ≤ R := ⟨by omega, by omega⟩
  have hin := g.in hnR (p := 2) (by omega)
  refine ⟨h.le, h.hi, fun k h1 h2 => ?_, fun k h1 h2 => ?_, fun h0 => ?_⟩
  · have hkR : 1 ≤ k ∧ (k : Int) ≤ R := ⟨by omega, by omega⟩
    rw [cellAt_far (i := recAt R d n 2) (j := recAt R d k 0) (rec_ne hnR hkR (by omega) (by omega) (.inl (by omega))), cellAt_far (i := recAt R d n 2) (j := recAt R d k 2) (rec_ne hnR hkR (by omega) (by omega) (.inl (by omega)))]; exact h.up k h1 h2
  · have hkR : 1 ≤ k ∧ (k : Int) ≤ R := ⟨by omega, by omega⟩
    rw [cellAt_far (i := recAt R d n 2) (j := recAt R d k 0) (rec_ne hnR hkR (by omega) (by omega) (.inr (by omega)))]
    refine ⟨(h.low k h1 h2).1, ?_⟩
    by_cases hkn : n = k
    · subst hkn; rw [cellAt_own hin.1 (by rw [hk]; exact hin.2)]; exact ⟨0, rfl, by omega⟩
    · rw [cellAt_far (rec_ne hnR hkR (by omega) (by omega) (.inl hkn))]; exact (h.low k h1 h2).2
  · have hkR : 1 ≤ t ∧ (t : Int) ≤ R := ⟨by omega, by omega⟩
    rw [cellAt_far (rec_ne hnR hkR (by omega) (by omega) (.inr (by omega)))]; exact h.val h0
/-- A record of the way whose stamp is neither 0 nor greater than a floor of at most t lies at t or below. -/
theorem Way.old (h : Way R d l t top u) {q s f : Nat} (h1 : 1 ≤ q) (h2 : q ≤ top) (hs : (cellAt l (recAt R d q 0)).1 = (s : Int)) (h0 : s ≠ 0) (hf : s ≤ f) (hft : f ≤ t) : q ≤ t := by
  refine Nat.le_of_not_lt fun hlt => ?_
  obtain ⟨⟨s2, hs2, h3⟩, _⟩ := h.up q hlt h2
  have : s = s2 := by have := hs.symm.trans hs2; omega
  omega
end

/-! ### A chain with the stamps n, n - 1, .., 1 -/
/-- The versions of a chain whose stamps count down to 1. -/
def Cnt (xs : List Ve) (n : Nat) : Prop := xs.length = n ∧ ∀ (i : Nat) (x : Ve), xs[i]? = some x → x.1 = n - i
theorem Cnt.nil : Cnt [] 0 := ⟨rfl, fun i x h => by simp at h⟩
theorem Cnt.cons {xs : List Ve} {n : Nat} (h : Cnt xs n) (v : ByteArray × Bool) : Cnt ((n + 1, v) :: xs) (n + 1) :=
  ⟨by simp [h.1], fun i x hx => by
    cases i with
    | zero => simp at hx; subst hx; rfl
    | succ i => rw [List.getElem?_cons_succ] at hx; rw [h.2 i x hx]; omega⟩
theorem Cnt.fnd {xs : List Ve} {n : Nat} (h : Cnt xs n) {t : Nat} (ht : t ≤ n) : fnd t xs = n - t := by
  refine fnd_unique (fun i x hi hx => ?_) (by rw [h.1]; omega) (fun x hx => ?_)
  · refine rch_no.2 fun _ => ?_
    rw [h.2 i x hx]; omega
  · have hl := (List.getElem?_eq_some_iff.1 hx).1
    rw [h.1] at hl
    have h1 := h.2 _ x hx
    exact rch_iff.2 ⟨by omega, by omega⟩
theorem Cnt.sees {xs : List Ve} {n : Nat} (h : Cnt xs n) {t : Nat} (h1 : 1 ≤ t) (ht : t ≤ n) : ∃ x, xs[n - t]? = some x ∧ x.1 = t ∧ vis t xs = (x, true) := by
  have hx : xs[n - t]? = some (xs[n - t]'(by rw [h.1]; omega)) := List.getElem?_eq_getElem (by rw [h.1]; omega)
  refine ⟨_, hx, by rw [h.2 _ _ hx]; omega, vis_yes (by rw [h.fnd ht]; exact hx)⟩
theorem Cnt.none {xs : List Ve} {n : Nat} (h : Cnt xs n) : vis 0 xs = (nul, false) := vis_no (by rw [h.fnd (Nat.zero_le _), h.1]; omega)
theorem Cnt.chk {xs : List Ve} {n : Nat} (h : Cnt xs n) (hb : ∀ x ∈ xs, bad x = false) : ChkI xs := by
  refine ⟨fun i x hx => hb x (List.mem_of_getElem? hx), fun i x y hx hy => ?_⟩
  have hl := (List.getElem?_eq_some_iff.1 hy).1
  rw [h.1] at hl
  exact flw_iff.2 ⟨by rw [h.2 _ _ hy]; omega, .inr (by rw [h.2 _ _ hx, h.2 _ _ hy]; omega)⟩
/-- The records of such a chain, each with its stamp as its number. -/
def own (xs : List Ve) : List (Nat × Ve) := xs.map fun x => (x.1, x)
theorem own_at {xs : List Ve} {i : Nat} {y : Nat × Ve} (h : (own xs)[i]? = some y) : ∃ x, xs[i]? = some x ∧ y = (x.1, x) := by
  unfold own at h
  rw [List.getElem?_map] at h
  cases hx : xs[i]? with
  | none => rw [hx] at h; cases h
  | some x => rw [hx] at h; cases h; exact ⟨x, rfl, rfl⟩
theorem own_some {xs : List Ve} {i : Nat} {x : Ve} (h : xs[i]? = some x) : (own xs)[i]? = some (x.1, x) := by unfold own; rw [List.getElem?_map, h]; rfl
theorem own_take (xs : List Ve) (k : Nat) : own (xs.take k) = (own xs).take k := by unfold own; rw [List.map_take]
theorem Cnt.desc {xs : List Ve} {n : Nat} (h : Cnt xs n) : DescN (own xs) := fun i a c ha hc => by
  obtain ⟨x, hx, rfl⟩ := own_at ha
  obtain ⟨y, hy, rfl⟩ := own_at hc
  have hl := (List.getElem?_eq_some_iff.1 hy).1
  rw [h.1] at hl
  show y.1 < x.1
  rw [h.2 _ _ hx, h.2 _ _ hy]; omega
theorem Cnt.num {xs : List Ve} {n : Nat} (h : Cnt xs n) (i : Nat) : num (own xs) i = n - i := by
  by_cases hi : i < n
  · have hx : xs[i]? = some (xs[i]'(by rw [h.1]; omega)) := List.getElem?_eq_getElem (by rw [h.1]; omega)
    rw [num_some (own_some hx), h.2 _ _ hx]
  · rw [num_none (by unfold own; rw [List.length_map, h.1]; omega)]; omega
/-- A reader at t finds its way in such a chain. -/
theorem Cnt.way {R d : Int} {l : List Cel} {xs : List Ve} {n t : Nat} (h : Cnt xs n) (hL : Lnk R d l (own xs) n) (hR : (n : Int) ≤ R) (ht : t ≤ n) {x : Ve} (hx : 0 < t → xs[n - t]? = some x) : Way R d l t n x.2 := by
  have hrec : ∀ k, 1 ≤ k → k ≤ n → ∃ y, xs[n - k]? = some y ∧ RecIs R d l k y (k - 1) := fun k h1 h2 => by
    have hy : xs[n - k]? = some (xs[n - k]'(by rw [h.1]; omega)) := List.getElem?_eq_getElem (by rw [h.1]; omega)
    have h3 := hL.recs (n - k) _ _ (own_some hy)
    have h4 := h.2 _ _ hy
    rw [h.num, h4] at h3
    refine ⟨_, hy, ?_⟩
    rw [show n - (n - k) = k by omega, show n - (n - k + 1) = k - 1 by omega] at h3
    exact h3
  refine ⟨ht, hR, fun k h1 h2 => ?_, fun k h1 h2 => ?_, fun h0 => ?_⟩
  · obtain ⟨y, hy, hr⟩ := hrec k (by omega) h2
    have h4 := h.2 _ _ hy
    exact ⟨⟨y.1, hr.stamp, .inr (by omega)⟩, k - 1, hr.next, by omega, by omega⟩
  · obtain ⟨y, hy, hr⟩ := hrec k h1 (by omega)
    have h4 := h.2 _ _ hy
    exact ⟨by rw [hr.stamp]; omega, k - 1, hr.next, by omega⟩
  · obtain ⟨y, hy, hr⟩ := hrec t h0 ht
    rw [hx h0] at hy; cases hy
    exact ⟨hr.val, hr.del⟩
end Go.Proofs.Ytpamjbjgckaedaa
