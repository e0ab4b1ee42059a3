/-
  Trees of nodes: which way a Find and a Below go through a tree, and where they end. No program runs here. Condition: none.
-/
import Derived.Test.YtboieccjikcdiaaDesFind
namespace Go.Proofs.Ytboieccjikcdiaa
open Go.RowKit Go.Deep Plain
set_option linter.unusedVariables false

/-- The order of keys. -/
abbrev kl (a b : ByteArray) : Bool := ltB a.toList b.toList
theorem kl_trans {a b c : ByteArray} (h : kl a b = true) (k : kl b c = true) : kl a c = true := ltB_trans _ _ _ h k
theorem kl_self (a : ByteArray) : kl a a = false := ltB_self _
theorem kl_asymm {a b : ByteArray} (h : kl a b = true) : kl b a = false := ltB_asymm _ _ h
/-- a ≤ b < c -/
theorem kl_le_lt {a b c : ByteArray} (h : kl b a = false) (k : kl b c = true) : kl a c = true := le_lt _ _ _ h k
/-- a < b ≤ c -/
theorem kl_lt_le {a b c : ByteArray} (h : kl a b = true) (k : kl c b = false) : kl a c = true := lt_le _ _ _ h k
/-- a ≤ b ≤ c -/
theorem kl_le_le {a b c : ByteArray} (h : kl b a = false) (k : kl c b = false) : kl c a = false := le_le _ _ _ h k
theorem kl_nil (a : ByteArray) : kl a ⟨#[]⟩ = false := by
  show ltB a.toList (⟨#[]⟩ : ByteArray).toList = false
  rw [Lib.toList_data ⟨#[]⟩]; exact ltB_nil _
theorem kl_pos {a : ByteArray} (h : ¬ a.toList = []) : kl ⟨#[]⟩ a = true := by
  show ltB (⟨#[]⟩ : ByteArray).toList a.toList = true
  rw [Lib.toList_data ⟨#[]⟩]
  cases hx : a.toList with
  | nil => exact absurd hx h
  | cons x r => rfl
theorem kl_pos_of {a b : ByteArray} (h : kl b a = true) : kl ⟨#[]⟩ a = true := kl_le_lt (kl_nil b) h

theorem asc_get : ∀ {xs : List Sl}, Asc xs → ∀ {i j : Nat} {x y : Sl}, i < j → xs[i]? = some x → xs[j]? = some y → lt x y.1 = true
  | [], _, i, j, x, y, _, hx, _ => by simp at hx
  | z :: r, ha, 0, j, x, y, hij, hx, hy => by
    obtain ⟨j', rfl⟩ : ∃ j', j = j' + 1 := ⟨j - 1, by omega⟩
    simp at hx hy; subst hx
    exact asc_head ha y (List.mem_of_getElem? hy)
  | z :: r, ha, i + 1, j, x, y, hij, hx, hy => by
    obtain ⟨j', rfl⟩ : ∃ j', j = j' + 1 := ⟨j - 1, by omega⟩
    exact asc_get (asc_tail ha) (i := i) (j := j') (by omega) (by simpa using hx) (by simpa using hy)
theorem asc_of_get : ∀ {xs : List Sl}, (∀ (i : Nat) (x y : Sl), xs[i]? = some x → xs[i + 1]? = some y → lt x y.1 = true) → Asc xs
  | [], _ => trivial
  | [_], _ => trivial
  | x :: y :: r, h => ⟨h 0 x y rfl rfl, asc_of_get fun i a b ha hb => h (i + 1) a b (by simpa using ha) (by simpa using hb)⟩
theorem seg_get {xs : List Sl} {a b q : Nat} {x : Sl} (h : ((xs.drop a).take b)[q]? = some x) : q < b ∧ xs[a + q]? = some x := by
  rw [List.getElem?_take] at h
  split at h
  · rw [List.getElem?_drop] at h; exact ⟨by assumption, h⟩
  · cases h
theorem get_seg {xs : List Sl} {a b q : Nat} {x : Sl} (hq : q < b) (h : xs[a + q]? = some x) : ((xs.drop a).take b)[q]? = some x := by
  rw [List.getElem?_take, if_pos hq, List.getElem?_drop]; exact h
theorem asc_seg {xs : List Sl} (h : Asc xs) (a b : Nat) : Asc ((xs.drop a).take b) :=
  asc_of_get fun i x y hx hy => asc_get h (i := a + i) (j := a + (i + 1)) (by omega) (seg_get hx).2 (seg_get hy).2

/-- The slot that Child takes: the last one whose key is not greater. -/
theorem child_le {xs : List Sl} (ha : Asc xs) {key k0 : ByteArray} {r0 : Nat} (h0 : xs[0]? = some (k0, r0)) (hk : kl key k0 = false) :
    ∃ q x, xs[q]? = some x ∧ near (before xs (if has key xs = true then cnt key xs + 1 else cnt key xs)) = (x.1, x.2, true) ∧ kl key x.1 = false ∧ ∀ y, xs[q + 1]? = some y → kl key y.1 = true := by
  have hcl := cnt_le key xs
  cases hh : has key xs
  · rw [if_neg (by simp)]
    have hpos : 0 < cnt key xs := by
      rcases Nat.eq_zero_or_pos (cnt key xs) with h | h
      · have h1 := lt_at xs ha key 0 _ h0
        rw [h] at h1
        have h2 := has_at xs ha key
        rw [h, h0, hh] at h2
        have h3 : kl k0 key = false := by simpa [lt] using h1
        have := ltB_tri _ _ h3 hk
        have h4 : eqk (k0, r0) key = true := by unfold eqk; rw [beq_iff_eq]; exact this
        replace h2 : false = eqk (k0, r0) key := h2
        rw [h4] at h2; cases h2
      · exact h
    obtain ⟨x, hx⟩ : ∃ x, xs[cnt key xs - 1]? = some x := ⟨_, List.getElem?_eq_getElem (by omega)⟩
    refine ⟨cnt key xs - 1, x, hx, ?_, ?_, fun y hy => ?_⟩
    · unfold before; rw [if_neg (by omega), hx]; rfl
    · have := lt_at xs ha key _ x hx
      have h1 : lt x key = true := by rw [this]; simp; omega
      exact kl_asymm h1
    · rw [show cnt key xs - 1 + 1 = cnt key xs by omega] at hy
      have h1 := lt_at xs ha key _ y hy
      have h1' : kl y.1 key = false := by have : lt y key = false := by rw [h1]; simp
                                          exact this
      have h2 := has_at xs ha key
      rw [hy, hh] at h2
      cases hky : kl key y.1
      · have := ltB_tri _ _ h1' hky
        have h4 : eqk y key = true := by unfold eqk; rw [beq_iff_eq]; exact this
        simp only [h4] at h2; cases h2
      · rfl
  · rw [if_pos rfl]
    obtain ⟨y, i, hy, hlt⟩ := has_in ha hh
    have hc : xs[cnt key xs]? = some xs[cnt key xs] := List.getElem?_eq_getElem hlt
    have h2 := has_at xs ha key
    rw [hc, hh] at h2
    have he := eqk_eq h2.symm
    refine ⟨cnt key xs, xs[cnt key xs], hc, ?_, ?_, fun z hz => ?_⟩
    · unfold before; rw [if_neg (by omega), Nat.add_sub_cancel, hc]; rfl
    · rw [he]; exact kl_self key
    · have := asc_get ha (Nat.lt_succ_self _) hc hz
      have h3 : kl (xs[cnt key xs]).1 z.1 = true := this
      rw [he] at h3; exact h3
/-- The slot that Below takes: the last one whose key is less. -/
theorem below_lt {xs : List Sl} (ha : Asc xs) {key k0 : ByteArray} {r0 : Nat} (h0 : xs[0]? = some (k0, r0)) (hk : kl k0 key = true) :
    ∃ x, x ∈ xs ∧ near (before xs (cnt key xs)) = (x.1, x.2, true) ∧ kl x.1 key = true := by
  have hcl := cnt_le key xs
  have h1 := lt_at xs ha key 0 _ h0
  have hpos : 0 < cnt key xs := by
    have h2 : lt (k0, r0) key = true := hk
    rw [h2] at h1; simpa using h1.symm
  obtain ⟨x, hx⟩ : ∃ x, xs[cnt key xs - 1]? = some x := ⟨_, List.getElem?_eq_getElem (by omega)⟩
  refine ⟨x, List.mem_of_getElem? hx, ?_, ?_⟩
  · unfold before; rw [if_neg (by omega), hx]; rfl
  · have := lt_at xs ha key _ x hx
    have h2 : lt x key = true := by rw [this]; simp; omega
    exact h2
theorem last_slot {xs : List Sl} (h : 0 < xs.length) : ∃ x, x ∈ xs ∧ near (before xs xs.length) = (x.1, x.2, true) := by
  obtain ⟨x, hx⟩ : ∃ x, xs[xs.length - 1]? = some x := ⟨_, List.getElem?_eq_getElem (by omega)⟩
  refine ⟨x, List.mem_of_getElem? hx, ?_⟩
  unfold before; rw [if_neg (by omega), hx]; rfl

/-- A level: m nodes from s on, with their low keys and their pages. -/
structure Lvl (F : Nat) (l : List Cel) (s m L : Nat) (lo : Nat → ByteArray) (pg : Nat → Pg) : Prop where
  s1 : 1 ≤ s
  pos : 1 ≤ m
  top : s + m ≤ 101
  nd : ∀ i, i < m → Nd F l (s + i) (pg i)
  lv : ∀ i, i < m → (pg i).lv = L
  low0 : lo 0 = ⟨#[]⟩
  next : ∀ i, i + 1 < m → (pg i).la = false ∧ (pg i).rt = s + i + 1 ∧ (pg i).hi = lo (i + 1)
  asc : ∀ i, i + 1 < m → kl (lo i) (lo (i + 1)) = true
  last : ∀ i, i + 1 = m → (pg i).la = true ∧ (pg i).rt = 0
theorem Lvl.mono {F : Nat} {l : List Cel} {s m L : Nat} {lo : Nat → ByteArray} {pg : Nat → Pg} (h : Lvl F l s m L lo pg) {i : Nat} : ∀ {j : Nat}, i < j → j < m → kl (lo i) (lo j) = true
  | 0, hij, _ => by omega
  | j + 1, hij, hj => by
    by_cases e : i = j
    · subst e; exact h.asc i hj
    · exact kl_trans (h.mono (j := j) (by omega) (by omega)) (h.asc j hj)
theorem Lvl.mono_le {F : Nat} {l : List Cel} {s m L : Nat} {lo : Nat → ByteArray} {pg : Nat → Pg} (h : Lvl F l s m L lo pg) {i j : Nat} (hij : i ≤ j) (hj : j < m) : kl (lo j) (lo i) = false := by
  by_cases e : i = j
  · subst e; exact kl_self _
  · exact kl_asymm (h.mono (by omega) hj)
/-- Page i covers the key to its right. -/
abbrev cov (P : Pg) (key : ByteArray) : Bool := P.la || kl key P.hi
/-- The node that covers a key is the last one whose low key is not greater. -/
theorem Lvl.after {F : Nat} {l : List Cel} {s m L : Nat} {lo : Nat → ByteArray} {pg : Nat → Pg} (h : Lvl F l s m L lo pg) {i j : Nat} {key : ByteArray} (hi : i < m) (hc : cov (pg i) key = true) (hij : i < j) (hj : j < m) : kl key (lo j) = true := by
  have hn := h.next i (by omega)
  unfold cov at hc
  rw [hn.1, hn.2.2, Bool.false_or] at hc
  by_cases e : i + 1 = j
  · subst e; exact hc
  · exact kl_trans hc (h.mono (by omega) hj)
theorem Lvl.unique {F : Nat} {l : List Cel} {s m L : Nat} {lo : Nat → ByteArray} {pg : Nat → Pg} (h : Lvl F l s m L lo pg) {i j : Nat} {key : ByteArray} (hi : i < m) (hj : j < m) (hli : kl key (lo i) = false) (hlj : kl key (lo j) = false) (hci : cov (pg i) key = true) (hcj : cov (pg j) key = true) : i = j := by
  rcases Nat.lt_trichotomy i j with h1 | h1 | h1
  · rw [h.after hi hci h1 hj] at hlj; cases hlj
  · exact h1
  · rw [h.after hj hcj h1 hi] at hli; cases hli

/-- A tree of H levels. -/
structure Tr (F : Nat) (l : List Cel) (H : Nat) (st mm : Nat → Nat) (lo : Nat → Nat → ByteArray) (pg : Nat → Nat → Pg) : Prop where
  H1 : 1 ≤ H
  lev : ∀ L, L < H → Lvl F l (st L) (mm L) L (lo L) (pg L)
  up : ∀ L, L + 1 < H → ∀ i, i < mm (L + 1) → (∃ r, (pg (L + 1) i).xs[0]? = some (lo (L + 1) i, r)) ∧ ∀ x ∈ (pg (L + 1) i).xs, ∃ j, j < mm L ∧ x = (lo L j, st L + j)
  ord : ∀ L, L + 1 < H → st (L + 1) = st L + mm L
  one : mm (H - 1) = 1
  root : cellAt l 0 = ((st (H - 1) : Int), ⟨#[]⟩, 0)
  tot : cellAt l 4 = ((st (H - 1) : Int), ⟨#[]⟩, 0)
section
variable {F H : Nat} {l : List Cel} {st mm : Nat → Nat} {lo : Nat → Nat → ByteArray} {pg : Nat → Nat → Pg}
theorem Tr.below (T : Tr F l H st mm lo pg) {a : Nat} : ∀ {L : Nat}, a ≤ L → L < H → st a ≤ st L
  | 0, h, _ => by obtain rfl : a = 0 := by omega
                  exact Nat.le_refl _
  | L + 1, h, hL => by
    by_cases e : a = L + 1
    · subst e; exact Nat.le_refl _
    · have := T.below (a := a) (L := L) (by omega) (by omega)
      have := T.ord L hL
      omega
theorem Tr.below2 (T : Tr F l H st mm lo pg) {a L : Nat} (h : a < L) (hL : L < H) : st a + mm a ≤ st L := by
  have h1 := T.ord a (by omega)
  have h2 := T.below (a := a + 1) (L := L) (by omega) hL
  omega
theorem Tr.height (T : Tr F l H st mm lo pg) : ∀ {L : Nat}, L < H → L + 1 ≤ st L
  | 0, h => by have := (T.lev 0 h).s1; omega
  | L + 1, h => by
    have h1 := T.height (L := L) (by omega)
    have h2 := T.ord L h
    have h3 := (T.lev L (by omega)).pos
    omega
theorem Tr.H100 (T : Tr F l H st mm lo pg) : H ≤ 100 := by
  have h1 := T.H1
  have h2 := T.height (L := H - 1) (by omega)
  have h3 := (T.lev (H - 1) (by omega)).top
  have h4 := T.one
  omega
/-- All nodes are numbers up to the root's. -/
theorem Tr.all (T : Tr F l H st mm lo pg) {L i : Nat} (hL : L < H) (hi : i < mm L) : 1 ≤ st L + i ∧ st L + i ≤ st (H - 1) ∧ st (H - 1) ≤ 100 := by
  have h1 := (T.lev L hL).s1
  have h3 := (T.lev (H - 1) (by have := T.H1; omega)).top
  have h4 := T.one
  refine ⟨by omega, ?_, by omega⟩
  by_cases e : L = H - 1
  · subst e; omega
  · have := T.below2 (a := L) (L := H - 1) (by omega) (by have := T.H1; omega)
    omega

/-- A Find's way from a node whose low key is not greater than the key. -/
theorem Tr.find (T : Tr F l H st mm lo pg) (key : ByteArray) (lvl : Nat) (hlvl : lvl < H) : ∀ (n L i : Nat), lvl ≤ L → L < H → i < mm L → kl key (lo L i) = false → (mm L - i) + (st L - st lvl) ≤ n →
    ∃ d j, j < mm lvl ∧ WPath F l (nxF key lvl) (st L + i) (pg L i) ⟨#[]⟩ d (st lvl + j) ⟨#[]⟩ ∧ d ≤ n * (F + 5) ∧ kl key (lo lvl j) = false ∧ cov (pg lvl j) key = true
  | 0, L, i, h1, h2, h3, h4, h5 => by omega
  | n + 1, L, i, h1, h2, h3, h4, h5 => by
    have V := T.lev L h2
    have hnd := V.nd i h3
    have hlv := V.lv i h3
    have hlen := hnd.len
    have hmul : (n + 1) * (F + 5) = n * (F + 5) + (F + 5) := Nat.succ_mul _ _
    cases hc : cov (pg L i) key
    · have hnl : i + 1 < mm L := by
        rcases Nat.lt_or_ge (i + 1) (mm L) with h | h
        · exact h
        · have := (V.last i (by omega)).1
          unfold cov at hc; rw [this] at hc; cases hc
      obtain ⟨hla, hrt, hhi⟩ := V.next i hnl
      have hk2 : kl key (lo L (i + 1)) = false := by
        unfold cov at hc; rw [hla, hhi, Bool.false_or] at hc; exact hc
      obtain ⟨d, j, hj, hp, hd, hjl, hjc⟩ := T.find key lvl hlvl n L (i + 1) h1 h2 hnl hk2 (by omega)
      refine ⟨(pg L i).xs.length + 5 + d, j, hj, .go hnd ?_ hp, by omega, hjl, hjc⟩
      have hc' : ((pg L i).la || ltB key.toList (pg L i).hi.toList) = false := hc
      unfold nxF
      rw [if_neg (by omega), if_pos hc', hrt]; rfl
    · by_cases e : lvl = L
      · subst e
        refine ⟨(pg lvl i).xs.length + 5, i, h3, .here hnd ?_, by omega, h4, hc⟩
        have hc' : ¬ ((pg lvl i).la || ltB key.toList (pg lvl i).hi.toList) = false := by
          intro h; have : cov (pg lvl i) key = false := h; rw [this] at hc; cases hc
        unfold nxF
        rw [if_neg (by omega), if_neg hc', if_neg (by omega)]
      · obtain ⟨L', rfl⟩ : ∃ L', L = L' + 1 := ⟨L - 1, by omega⟩
        obtain ⟨⟨r0, h0⟩, hx⟩ := T.up L' h2 i h3
        obtain ⟨q, x, hxq, hnear, hxk, -⟩ := child_le hnd.asc h0 h4
        obtain ⟨j, hj, rfl⟩ := hx x (List.mem_of_getElem? hxq)
        have hord := T.ord L' h2
        have hb := T.below (a := lvl) (L := L') (by omega) (by omega)
        obtain ⟨d, j2, hj2, hp, hd, hjl, hjc⟩ := T.find key lvl hlvl n L' j (by omega) (by omega) hj hxk (by omega)
        refine ⟨(pg (L' + 1) i).xs.length + 5 + d, j2, hj2, .go hnd ?_ hp, by omega, hjl, hjc⟩
        have hc' : ¬ ((pg (L' + 1) i).la || ltB key.toList (pg (L' + 1) i).hi.toList) = false := by
          intro h; have : cov (pg (L' + 1) i) key = false := h; rw [this] at hc; cases hc
        unfold nxF
        rw [if_neg (by omega), if_neg hc', if_pos (by omega), hnear]
theorem Tr.find_root (T : Tr F l H st mm lo pg) (hF : F ≤ 6) (key : ByteArray) (lvl : Nat) (hlvl : lvl < H) :
    ∃ d j, j < mm lvl ∧ WPath F l (nxF key lvl) (st (H - 1)) (pg (H - 1) 0) ⟨#[]⟩ d (st lvl + j) ⟨#[]⟩ ∧ d ≤ 1111 ∧ kl key (lo lvl j) = false ∧ cov (pg lvl j) key = true := by
  have h1 := T.H1
  have V := T.lev (H - 1) (by omega)
  have ho := T.one
  obtain ⟨d, j, hj, hp, hd, hjl, hjc⟩ := T.find key lvl hlvl 101 (H - 1) 0 (by omega) (by omega) (by omega) (by rw [V.low0]; exact kl_nil _) (by have := V.top; omega)
  exact ⟨d, j, hj, hp, by have : 101 * (F + 5) ≤ 101 * 11 := Nat.mul_le_mul_left _ (by omega)
                          omega, hjl, hjc⟩
theorem Tr.find_none (T : Tr F l H st mm lo pg) (hF : F ≤ 6) (key : ByteArray) (lvl : Nat) (hlvl : H ≤ lvl) :
    ∃ d, WPath F l (nxF key lvl) (st (H - 1)) (pg (H - 1) 0) ⟨#[]⟩ d 0 ⟨#[]⟩ ∧ d ≤ 1111 := by
  have h1 := T.H1
  have V := T.lev (H - 1) (by omega)
  have ho := T.one
  have hnd := V.nd 0 (by omega)
  have hlv := V.lv 0 (by omega)
  have hlen := hnd.len
  refine ⟨_, .none hnd ?_, by omega⟩
  unfold nxF
  rw [if_pos (by omega)]

/-- A Below's way from a node whose low key is less than the key. -/
theorem Tr.bfind (T : Tr F l H st mm lo pg) (key : ByteArray) (last : Bool) : ∀ (n L i : Nat), L < H → i < mm L → (last = true ∨ kl (lo L i) key = true) → (mm L - i) + (st L - st 0) ≤ n →
    ∃ d j, j < mm 0 ∧ WPath F l (nxB key last) (st L + i) (pg L i) (lo L i) d (st 0 + j) (lo 0 j) ∧ d ≤ n * (F + 5) ∧ (last = true ∨ kl (lo 0 j) key = true) ∧ (!(pg 0 j).la && (last || kl (pg 0 j).hi key)) = false
  | 0, L, i, h2, h3, h4, h5 => by omega
  | n + 1, L, i, h2, h3, h4, h5 => by
    have V := T.lev L h2
    have hnd := V.nd i h3
    have hlv := V.lv i h3
    have hlen := hnd.len
    have hmul : (n + 1) * (F + 5) = n * (F + 5) + (F + 5) := Nat.succ_mul _ _
    cases hc : (!(pg L i).la && (last || kl (pg L i).hi key))
    · have hc' : ¬ (!(pg L i).la && (last || ltB (pg L i).hi.toList key.toList)) = true := by
        intro h; rw [show (!(pg L i).la && (last || kl (pg L i).hi key)) = true from h] at hc; cases hc
      by_cases e : L = 0
      · subst e
        refine ⟨(pg 0 i).xs.length + 5, i, h3, .here hnd ?_, by omega, h4, hc⟩
        unfold nxB
        rw [if_neg hc', if_neg (by omega)]
      · obtain ⟨L', rfl⟩ : ∃ L', L = L' + 1 := ⟨L - 1, by omega⟩
        obtain ⟨⟨r0, h0⟩, hx⟩ := T.up L' h2 i h3
        have hsl : ∃ x, x ∈ (pg (L' + 1) i).xs ∧ near (before (pg (L' + 1) i).xs (if last = true then (pg (L' + 1) i).xs.length else cnt key (pg (L' + 1) i).xs)) = (x.1, x.2, true) ∧ (last = true ∨ kl x.1 key = true) := by
          cases last with
          | true =>
            obtain ⟨x, h1, h2⟩ := last_slot (xs := (pg (L' + 1) i).xs) (List.getElem?_eq_some_iff.1 h0).1
            exact ⟨x, h1, by rw [if_pos rfl]; exact h2, .inl rfl⟩
          | false =>
            obtain ⟨x, h1, h2, h3⟩ := below_lt hnd.asc h0 (h4.resolve_left (by simp))
            exact ⟨x, h1, by rw [if_neg (by simp)]; exact h2, .inr h3⟩
        obtain ⟨x, hxm, hnear, hxk⟩ := hsl
        obtain ⟨j, hj, rfl⟩ := hx x hxm
        have hord := T.ord L' h2
        have hb := T.below (a := 0) (L := L') (by omega) (by omega)
        obtain ⟨d, j2, hj2, hp, hd, hjl, hjc⟩ := T.bfind key last n L' j (by omega) hj hxk (by omega)
        refine ⟨(pg (L' + 1) i).xs.length + 5 + d, j2, hj2, .go hnd ?_ hp, by omega, hjl, hjc⟩
        unfold nxB
        rw [if_neg hc', if_pos (by omega), hnear]
    · have hc' : (!(pg L i).la && (last || ltB (pg L i).hi.toList key.toList)) = true := hc
      have hla : (pg L i).la = false := by cases h : (pg L i).la; rfl; rw [h] at hc; cases hc
      have hnl : i + 1 < mm L := by
        rcases Nat.lt_or_ge (i + 1) (mm L) with h | h
        · exact h
        · have := (V.last i (by omega)).1
          rw [this] at hla; cases hla
      obtain ⟨-, hrt, hhi⟩ := V.next i hnl
      have hk2 : last = true ∨ kl (lo L (i + 1)) key = true := by
        rw [hla, hhi] at hc
        cases last with
        | true => exact .inl rfl
        | false => exact .inr (by simpa using hc)
      obtain ⟨d, j, hj, hp, hd, hjl, hjc⟩ := T.bfind key last n L (i + 1) h2 hnl hk2 (by omega)
      refine ⟨(pg L i).xs.length + 5 + d, j, hj, .go hnd ?_ hp, by omega, hjl, hjc⟩
      unfold nxB
      rw [if_pos hc', hrt, hhi]; rfl
theorem Tr.below_root (T : Tr F l H st mm lo pg) (hF : F ≤ 6) (key : ByteArray) (last : Bool) (hk : last = true ∨ ¬ key.toList = []) :
    ∃ d j, j < mm 0 ∧ WPath F l (nxB key last) (st (H - 1)) (pg (H - 1) 0) ⟨#[]⟩ d (st 0 + j) (lo 0 j) ∧ d ≤ 1111 ∧ (last = true ∨ kl (lo 0 j) key = true) ∧ (!(pg 0 j).la && (last || kl (pg 0 j).hi key)) = false := by
  have h1 := T.H1
  have V := T.lev (H - 1) (by omega)
  have ho := T.one
  obtain ⟨d, j, hj, hp, hd, hjl, hjc⟩ := T.bfind key last 101 (H - 1) 0 (by omega) (by omega) (by rw [V.low0]; exact hk.imp id kl_pos) (by have := V.top; omega)
  rw [V.low0] at hp
  exact ⟨d, j, hj, hp, by have : 101 * (F + 5) ≤ 101 * 11 := Nat.mul_le_mul_left _ (by omega)
                          omega, hjl, hjc⟩

/-- Every node is entered on the level above. -/
def Full (H : Nat) (mm : Nat → Nat) (lo : Nat → Nat → ByteArray) (pg : Nat → Nat → Pg) (st : Nat → Nat) : Prop :=
  ∀ L, L + 1 < H → ∀ i, i < mm (L + 1) → ∀ q j, (pg (L + 1) i).xs[q]? = some (lo L j, st L + j) → j + 1 < mm L → (∃ r, (pg (L + 1) i).xs[q + 1]? = some (lo L (j + 1), r)) ∨ ((pg (L + 1) i).xs.length = q + 1 ∧ (pg (L + 1) i).la = false ∧ (pg (L + 1) i).hi = lo L (j + 1))
theorem Tr.short (T : Tr F l H st mm lo pg) (hFull : Full H mm lo pg st) (key : ByteArray) : ∀ (L i : Nat), L < H → i < mm L → kl key (lo L i) = false → cov (pg L i) key = true →
    ∃ d j, j < mm 0 ∧ WPath F l (nxF key 0) (st L + i) (pg L i) ⟨#[]⟩ d (st 0 + j) ⟨#[]⟩ ∧ d ≤ (L + 1) * (F + 5)
  | 0, i, h2, h3, h4, hc => by
    have V := T.lev 0 h2
    have hnd := V.nd i h3
    have hlv := V.lv i h3
    have hlen := hnd.len
    refine ⟨(pg 0 i).xs.length + 5, i, h3, .here hnd ?_, by omega⟩
    have hc' : ¬ ((pg 0 i).la || ltB key.toList (pg 0 i).hi.toList) = false := by
      intro h; have : cov (pg 0 i) key = false := h; rw [this] at hc; cases hc
    unfold nxF
    rw [if_neg (by omega), if_neg hc', if_neg (by omega)]
  | L + 1, i, h2, h3, h4, hc => by
    have V := T.lev (L + 1) h2
    have hnd := V.nd i h3
    have hlv := V.lv i h3
    have hlen := hnd.len
    have hmul : (L + 1 + 1) * (F + 5) = (L + 1) * (F + 5) + (F + 5) := Nat.succ_mul _ _
    obtain ⟨⟨r0, h0⟩, hx⟩ := T.up L h2 i h3
    obtain ⟨q, x, hxq, hnear, hxk, hnx⟩ := child_le hnd.asc h0 h4
    obtain ⟨j, hj, rfl⟩ := hx x (List.mem_of_getElem? hxq)
    have V2 := T.lev L (by omega)
    have hcj : cov (pg L j) key = true := by
      unfold cov
      by_cases hl : j + 1 < mm L
      · obtain ⟨ha, -, hb⟩ := V2.next j hl
        rw [hb]
        rcases hFull L h2 i h3 q j hxq hl with ⟨r, hr⟩ | ⟨hr1, hr2, hr3⟩
        · rw [hnx _ hr, Bool.or_true]
        · unfold cov at hc
          rw [hr2, hr3, Bool.false_or] at hc
          rw [hc, Bool.or_true]
      · rw [(V2.last j (by omega)).1, Bool.true_or]
    obtain ⟨d, j2, hj2, hp, hd⟩ := T.short hFull key L j (by omega) hj hxk hcj
    refine ⟨(pg (L + 1) i).xs.length + 5 + d, j2, hj2, .go hnd ?_ hp, by omega⟩
    have hc' : ¬ ((pg (L + 1) i).la || ltB key.toList (pg (L + 1) i).hi.toList) = false := by
      intro h; have : cov (pg (L + 1) i) key = false := h; rw [this] at hc; cases hc
    unfold nxF
    rw [if_neg (by omega), if_neg hc', if_pos (by omega), hnear]
theorem Tr.short_root (T : Tr F l H st mm lo pg) (hFull : Full H mm lo pg st) (key : ByteArray) :
    ∃ d j, j < mm 0 ∧ WPath F l (nxF key 0) (st (H - 1)) (pg (H - 1) 0) ⟨#[]⟩ d (st 0 + j) ⟨#[]⟩ ∧ d ≤ H * (F + 5) := by
  have h1 := T.H1
  have V := T.lev (H - 1) (by omega)
  have ho := T.one
  have hla := (V.last 0 (by omega)).1
  obtain ⟨d, j, hj, hp, hd⟩ := T.short hFull key (H - 1) 0 (by omega) (by omega) (by rw [V.low0]; exact kl_nil _) (by unfold cov; rw [hla]; rfl)
  exact ⟨d, j, hj, hp, by rw [show H - 1 + 1 = H by omega] at hd; exact hd⟩
end

/-- The leaves hold the keys, one row after the other. -/
structure Leaves (ks : List ByteArray) (m : Nat) (lo : Nat → ByteArray) (pg : Nat → Pg) (off : Nat → Nat) : Prop where
  zero : off 0 = 0
  all : off m = ks.length
  step : ∀ i, i < m → off (i + 1) = off i + (pg i).xs.length
  slot : ∀ i, i < m → ∀ q x, (pg i).xs[q]? = some x → ks[off i + q]? = some x.1 ∧ x.2 = off i + q + 1
  low : ∀ i, i < m → ∀ x ∈ (pg i).xs, kl x.1 (lo i) = false
  high : ∀ i, i < m → ∀ x ∈ (pg i).xs, cov (pg i) x.1 = true
theorem Leaves.mono {ks : List ByteArray} {m : Nat} {lo : Nat → ByteArray} {pg : Nat → Pg} {off : Nat → Nat} (h : Leaves ks m lo pg off) {i : Nat} : ∀ {j : Nat}, i ≤ j → j ≤ m → off i ≤ off j
  | 0, hij, _ => by obtain rfl : i = 0 := by omega
                    exact Nat.le_refl _
  | j + 1, hij, hj => by
    by_cases e : i = j + 1
    · subst e; exact Nat.le_refl _
    · have := h.mono (i := i) (j := j) (by omega) (by omega)
      have := h.step j (by omega)
      omega
/-- Every key lies in a leaf. -/
theorem Leaves.find {ks : List ByteArray} {m : Nat} {lo : Nat → ByteArray} {pg : Nat → Pg} {off : Nat → Nat} (h : Leaves ks m lo pg off) {p : Nat} (hp : p < ks.length) : ∃ i q, i < m ∧ p = off i + q ∧ q < (pg i).xs.length := by
  have key : ∀ n, n ≤ m → p < off n → ∃ i q, i < m ∧ p = off i + q ∧ q < (pg i).xs.length := by
    intro n
    induction n with
    | zero => intro _ h0; rw [h.zero] at h0; omega
    | succ n ih =>
      intro hn h0
      rcases Nat.lt_or_ge p (off n) with h1 | h1
      · exact ih (by omega) h1
      · have := h.step n (by omega)
        exact ⟨n, p - off n, by omega, by omega, by omega⟩
  exact key m (Nat.le_refl _) (by rw [h.all]; exact hp)
end Go.Proofs.Ytboieccjikcdiaa
