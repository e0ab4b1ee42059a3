/-
  A tree that is built up to a level, the next level, and the end. No program runs here. Condition: a fanout of 4 to 6, at most 40 keys.
-/
import Derived.Test.YtboieccjikcdiaaDesBuild
namespace Go.Proofs.Ytboieccjikcdiaa
open Go.RowKit Go.Deep Plain
set_option linter.unusedVariables false

/-- How many nodes so many slots can still need. -/
def cap (n : Nat) : Nat := if n ≤ 2 then 1 else (3 * n - 2) / 2
theorem cap_step {n p m : Nat} (hn : 0 < n) (hp : 2 * p ≤ n + 1) (h2 : 2 ≤ p) (hm : m ≤ p) : p + cap m ≤ cap n := by
  unfold cap
  rw [if_neg (by omega : ¬ n ≤ 2)]
  split <;> omega
theorem cap_pos (n : Nat) : 1 ≤ cap n := by unfold cap; split <;> omega
theorem cap_le {n p : Nat} (hp : 2 * p ≤ n + 1) : p ≤ cap n := by
  unfold cap; split <;> omega
/-- A function with another value at one place. -/
def upd {α : Type} (f : Nat → α) (L : Nat) (x : α) : Nat → α := fun i => if i = L then x else f i
theorem upd_at {α : Type} (f : Nat → α) (L : Nat) (x : α) : upd f L x L = x := if_pos rfl
theorem upd_ne {α : Type} (f : Nat → α) {L i : Nat} (x : α) (h : i ≠ L) : upd f L x i = f i := if_neg h

/-- A tree of L levels, and the slots of the next one; its nodes begin at nx. -/
structure Bt (F : Nat) (l : List Cel) (L nx : Nat) (S : List Sl) (ks : List ByteArray) (hide : Bool) (st mm : Nat → Nat) (lo : Nat → Nat → ByteArray) (pg : Nat → Nat → Pg) (off : Nat → Nat) : Prop where
  nats : Nats l
  big : 10 + 100 * (F : Int) + 400 ≤ (l.length : Int)
  zero : ∀ n, 1 ≤ n → n ≤ 100 → cellAt l (nla F n) = cel0
  asc : Asc S
  ref : ∀ x ∈ S, x.2 < 18446744073709551616
  lev : ∀ L', L' < L → Lvl F l (st L') (mm L') L' (lo L') (pg L')
  up : ∀ L', L' + 1 < L → ∀ i, i < mm (L' + 1) → (∃ r, (pg (L' + 1) i).xs[0]? = some (lo (L' + 1) i, r)) ∧ ∀ x ∈ (pg (L' + 1) i).xs, ∃ j, j < mm L' ∧ x = (lo L' j, st L' + j)
  ord : ∀ L', L' + 1 < L → st (L' + 1) = st L' + mm L'
  base : L = 0 → nx = 1 ∧ S.length = ks.length ∧ S.length ≤ 40 ∧ ∀ i x, S[i]? = some x → ks[i]? = some x.1 ∧ x.2 = i + 1
  more : ∀ L', L = L' + 1 → nx = st L' + mm L' ∧ S[0]? = some (⟨#[]⟩, st L') ∧ (∀ x ∈ S, ∃ j, j < mm L' ∧ x = (lo L' j, st L' + j)) ∧ nx + cap S.length ≤ 101 ∧ (hide = false → S.length = mm L' ∧ ∀ j, j < mm L' → S[j]? = some (lo L' j, st L' + j))
  leaves : 1 ≤ L → Leaves ks (mm 0) (lo 0) (pg 0) off ∧ st 0 = 1
  full : hide = false → Full L mm lo pg st
section
variable {F L nx : Nat} {l l' : List Cel} {S ab : List Sl} {ks : List ByteArray} {hide : Bool} {st mm : Nat → Nat} {lo : Nat → Nat → ByteArray} {pg : Nat → Nat → Pg} {off : Nat → Nat} {ps : List Nat}
theorem Bt.tall (B : Bt F l L nx S ks hide st mm lo pg off) : ∀ {L' : Nat}, L' < L → L' + 1 ≤ st L'
  | 0, h => (B.lev 0 h).s1
  | L' + 1, h => by
    have h1 := B.tall (L' := L') (by omega)
    have h2 := B.ord L' h
    have h3 := (B.lev L' (by omega)).pos
    omega
theorem Bt.nx1 (B : Bt F l L nx S ks hide st mm lo pg off) : L + 1 ≤ nx := by
  rcases Nat.eq_zero_or_pos L with e | e
  · have := (B.base e).1; omega
  · obtain ⟨L', rfl⟩ : ∃ L', L = L' + 1 := ⟨L - 1, by omega⟩
    have h1 := (B.more L' rfl).1
    have h2 := B.tall (L' := L') (by omega)
    have h3 := (B.lev L' (by omega)).pos
    omega
theorem Bt.pos (B : Bt F l L nx S ks hide st mm lo pg off) (h : 1 ≤ L) : 0 < S.length := by
  obtain ⟨L', rfl⟩ : ∃ L', L = L' + 1 := ⟨L - 1, by omega⟩
  exact (List.getElem?_eq_some_iff.1 (B.more L' rfl).2.1).1
theorem Bt.room (B : Bt F l L nx S ks hide st mm lo pg off) (hp : Pt F L S.length ps) : nx + ps.length ≤ 101 ∧ (L = 0 → nx + ps.length ≤ 41) := by
  rcases Nat.eq_zero_or_pos L with e | e
  · obtain ⟨h1, h2, h3, -⟩ := B.base e
    rcases hp.count with h | h
    · exact ⟨by omega, fun _ => by omega⟩
    · exact ⟨by omega, fun _ => by omega⟩
  · have h1 := hp.count2 e (B.pos e)
    have h2 := cap_le h1
    obtain ⟨L', rfl⟩ : ∃ L', L = L' + 1 := ⟨L - 1, by omega⟩
    have := (B.more L' rfl).2.2.2.1
    exact ⟨by omega, fun h => by omega⟩
theorem Bt.low (B : Bt F l L nx S ks hide st mm lo pg off) {L' : Nat} (h : L' < L) : st L' + mm L' ≤ nx := by
  have key : ∀ k, L' + k + 1 = L → st L' + mm L' ≤ nx := by
    intro k
    induction k generalizing L' with
    | zero => intro e; have := (B.more L' (by omega)).1; omega
    | succ k ih =>
      intro e
      have h1 := ih (L' := L' + 1) (by omega) (by omega)
      have h2 := B.ord L' (by omega)
      omega
  exact key (L - 1 - L') (by omega)

/-- All levels with the next one. -/
theorem Bt.levels (B : Bt F l L nx S ks hide st mm lo pg off) (hp : Pt F L S.length ps) (hc : ∀ n, 1 ≤ n → n < nx → ∀ r, r < F + 3 → cellAt l' (nad F n r) = cellAt l (nad F n r)) (hz : ∀ n, 1 ≤ n → n ≤ 100 → cellAt l' (nla F n) = cellAt l (nla F n)) (hh : ∀ i, i < ps.length → Holds (nad F (nx + i)) l' (pgL L S ps nx i)) :
    (∀ L', L' < L + 1 → Lvl F l' (upd st L nx L') (upd mm L ps.length L') L' (upd lo L (loL L S ps) L') (upd pg L (pgL L S ps nx) L')) ∧
    (∀ L', L' + 1 < L + 1 → ∀ i, i < upd mm L ps.length (L' + 1) → (∃ r, (upd pg L (pgL L S ps nx) (L' + 1) i).xs[0]? = some (upd lo L (loL L S ps) (L' + 1) i, r)) ∧ ∀ x ∈ (upd pg L (pgL L S ps nx) (L' + 1) i).xs, ∃ j, j < upd mm L ps.length L' ∧ x = (upd lo L (loL L S ps) L' j, upd st L nx L' + j)) ∧
    (∀ L', L' + 1 < L + 1 → upd st L nx (L' + 1) = upd st L nx L' + upd mm L ps.length L') ∧
    (Leaves ks (upd mm L ps.length 0) (upd lo L (loL L S ps) 0) (upd pg L (pgL L S ps nx) 0) (if L = 0 then fr ps else off) ∧ upd st L nx 0 = 1) ∧
    (hide = false → Full (L + 1) (upd mm L ps.length) (upd lo L (loL L S ps)) (upd pg L (pgL L S ps nx)) (upd st L nx)) := by
  have hroom := B.room hp
  have hnx := B.nx1
  refine ⟨fun L' hL => ?_, fun L' hL i hi => ?_, fun L' hL => ?_, ?_, fun hd L' hL i hi q j hq hj => ?_⟩
  · by_cases e : L' = L
    · subst e
      rw [upd_at, upd_at, upd_at, upd_at]
      exact lvl_of B.asc hp (by omega) hroom.1 hh (fun n h1 h2 => (hz n h1 h2).trans (B.zero n h1 h2))
    · rw [upd_ne _ _ e, upd_ne _ _ e, upd_ne _ _ e, upd_ne _ _ e]
      have hlow := B.low (L' := L') (by omega)
      exact (B.lev L' (by omega)).move (fun n h1 h2 => hc n h1 (by omega)) hz
  · rw [upd_ne mm _ (by omega : L' ≠ L), upd_ne lo _ (by omega : L' ≠ L), upd_ne st _ (by omega : L' ≠ L)]
    by_cases e : L' + 1 = L
    · subst e
      rw [upd_at] at hi ⊢
      rw [upd_at]
      obtain ⟨-, h0, hm, -⟩ := B.more L' rfl
      refine ⟨first_of hp (by omega) h0 hi, fun x hx => ?_⟩
      have hx' : x ∈ (S.drop (fr ps i)).take (ps.getD i 0) := hx
      exact hm x (List.mem_of_mem_drop (List.mem_of_mem_take hx'))
    · rw [upd_ne _ _ e] at hi
      rw [upd_ne _ _ e, upd_ne _ _ e]
      exact B.up L' (by omega) i hi
  · rw [upd_ne mm _ (by omega : L' ≠ L), upd_ne st _ (by omega : L' ≠ L)]
    by_cases e : L' + 1 = L
    · subst e; rw [upd_at]; exact (B.more L' rfl).1
    · rw [upd_ne _ _ e]; exact B.ord L' (by omega)
  · by_cases e : L = 0
    · subst e
      rw [upd_at, upd_at, upd_at, upd_at, if_pos rfl]
      obtain ⟨h1, h2, h3, h4⟩ := B.base rfl
      exact ⟨leaves_of B.asc hp h2 h4, h1⟩
    · rw [upd_ne _ _ (Ne.symm e), upd_ne _ _ (Ne.symm e), upd_ne _ _ (Ne.symm e), upd_ne _ _ (Ne.symm e), if_neg e]
      exact B.leaves (by omega)
  · rw [upd_ne mm _ (by omega : L' ≠ L)] at hj
    rw [upd_ne lo _ (by omega : L' ≠ L), upd_ne st _ (by omega : L' ≠ L)] at hq
    rw [upd_ne lo _ (by omega : L' ≠ L)]
    by_cases e : L' + 1 = L
    · subst e
      rw [upd_at] at hi hq
      rw [upd_at]
      obtain ⟨-, h0, hm, -, hf⟩ := B.more L' rfl
      obtain ⟨hf1, hf2⟩ := hf hd
      obtain ⟨hs1, hs2⟩ := pg_slot hp hi hq
      obtain ⟨hl1, hl2, hl3⟩ := pg_len (nx := nx) hp hi
      have hlt : fr ps i + q < mm L' := by rw [← hf1]; exact (List.getElem?_eq_some_iff.1 hs1).1
      have hj2 := hf2 _ hlt
      rw [hs1] at hj2
      have hjq : j = fr ps i + q := by injection hj2 with hj2; injection hj2 with _ hj2; omega
      have hnext := hf2 (j + 1) hj
      rw [hjq] at hnext ⊢
      by_cases hql : q + 1 < ps.getD i 0
      · refine .inl ⟨st L' + (fr ps i + q + 1), ?_⟩
        show ((S.drop (fr ps i)).take (ps.getD i 0))[q + 1]? = _
        exact get_seg hql (by rw [show fr ps i + (q + 1) = fr ps i + q + 1 by omega]; exact hnext)
      · have hq1 : q + 1 = ps.getD i 0 := by omega
        have hin : i + 1 < ps.length := by
          rcases Nat.lt_or_ge (i + 1) ps.length with h | h
          · exact h
          · have h5 := fr_all ps
            rw [hp.sum, show ps.length = i + 1 by omega] at h5
            omega
        refine .inr ⟨by rw [hl1]; omega, by show decide _ = false; simp; omega, ?_⟩
        show hiL (L' + 1) S ps i = _
        unfold hiL
        rw [if_pos hin, if_neg (by omega), show fr ps (i + 1) = fr ps i + q + 1 by omega]
        exact kat_at hnext
    · rw [upd_ne mm _ e] at hi
      rw [upd_ne pg _ e] at hq
      rw [upd_ne pg _ e]
      exact B.full hd L' (by omega) i hi q j hq hj

/-- The next level done, and more than one node: there is another one to build. -/
theorem Bt.step (B : Bt F l L nx S ks hide st mm lo pg off) (hp : Pt F L S.length ps) (hm : Mv F nx l l') (hh : ∀ i, i < ps.length → Holds (nad F (nx + i)) l' (pgL L S ps nx i)) (ha : Abv L S ps nx hide ps.length ab) (h2 : 2 ≤ ps.length) :
    ∃ st2 mm2 lo2 pg2 off2, Bt F l' (L + 1) (nx + ps.length) ab ks hide st2 mm2 lo2 pg2 off2 := by
  obtain ⟨h1, h3, h4, h5, h6⟩ := B.levels hp hm.low hm.lat hh
  have hroom := B.room hp
  refine ⟨_, _, _, _, _, ⟨hm.nats B.nats, by rw [hm.len]; exact B.big, fun n hn1 hn2 => (hm.lat n hn1 hn2).trans (B.zero n hn1 hn2), ha.asc, fun x hx => ?_, h1, h3, h4, fun e => by omega, fun L' e => ?_, fun _ => h5, h6⟩⟩
  · obtain ⟨j, hj, rfl⟩ := ha.mem x hx
    show nx + j < _; omega
  · obtain rfl : L' = L := by omega
    rw [upd_at, upd_at, upd_at]
    refine ⟨rfl, ha.head (by omega), ha.mem, ?_, ha.all⟩
    have hal := ha.len
    rcases Nat.eq_zero_or_pos L' with e0 | e0
    · have h40 := hroom.2 e0
      have hb := (B.base e0).1
      have : cap ab.length ≤ 59 := by unfold cap; split <;> omega
      omega
    · obtain ⟨L2, rfl⟩ : ∃ L2, L' = L2 + 1 := ⟨L' - 1, by omega⟩
      have h7 := cap_step (B.pos e0) (hp.count2 e0 (B.pos e0)) h2 hal
      have h8 := (B.more L2 rfl).2.2.2.1
      omega
/-- The slots become fewer. -/
theorem Bt.fewer (B : Bt F l L nx S ks hide st mm lo pg off) (hp : Pt F L S.length ps) (ha : Abv L S ps nx hide ps.length ab) (h2 : 2 ≤ ps.length) : ab.length < S.length + (if L = 0 then 1 else 0) := by
  have hal := ha.len
  rcases Nat.eq_zero_or_pos L with e | e
  · rw [if_pos e]
    rcases hp.count with h | h <;> omega
  · rw [if_neg (by omega)]
    have := hp.count2 e (B.pos e)
    omega
/-- One node: the tree is done, once its number and its height are stored. -/
theorem Bt.fin (B : Bt F l L nx S ks hide st mm lo pg off) (hp : Pt F L S.length ps) (h4 : 4 ≤ F) (h6 : F ≤ 6) (hm : Mv F nx l l') (hh : ∀ i, i < ps.length → Holds (nad F (nx + i)) l' (pgL L S ps nx i)) (h1' : ps.length = 1) {l2 : List Cel} (hl2 : l2 = putAt (putAt l' 0 ((nx : Int), ⟨#[]⟩, 0)) 4 ((nx : Int), ⟨#[]⟩, 0)) :
    ∃ st2 mm2 lo2 pg2 off2, Tr F l2 (L + 1) st2 mm2 lo2 pg2 ∧ Leaves ks (mm2 0) (lo2 0) (pg2 0) off2 ∧ st2 0 = 1 ∧ (hide = false → Full (L + 1) mm2 lo2 pg2 st2) ∧ Nats l2 ∧ l2.length = l.length ∧ ∀ L' i, L' < L + 1 → i < mm2 L' → Fits (pg2 L' i) ∨ True := by
  have hroom := B.room hp
  have hnx := B.nx1
  have hnc : NatCell ((nx : Int), ⟨#[]⟩, 0) := ⟨nx, 0, _, rfl, by omega, by omega⟩
  obtain ⟨a1, a2, a3⟩ := Mv.ctrPoke (nx := 101) h4 h6 (Nat.le_refl _) l' (a := 0) (by omega) _ hnc
  obtain ⟨b1, b2, b3⟩ := Mv.ctrPoke (nx := 101) h4 h6 (Nat.le_refl _) (putAt l' 0 ((nx : Int), ⟨#[]⟩, 0)) (a := 4) (by omega) _ hnc
  have hbig := B.big
  have hlen := hm.len
  have c1 : ∀ n, 1 ≤ n → n < 101 → ∀ r, r < F + 3 → cellAt l2 (nad F n r) = cellAt l' (nad F n r) := fun n hn1 hn2 r hr => by rw [hl2]; exact (b1 n hn1 hn2 r hr).trans (a1 n hn1 hn2 r hr)
  have c2 : ∀ n, 1 ≤ n → n ≤ 100 → cellAt l2 (nla F n) = cellAt l' (nla F n) := fun n hn1 hn2 => by rw [hl2]; exact (b2 n hn1 hn2).trans (a2 n hn1 hn2)
  obtain ⟨h1, h3, h4', h5, h6'⟩ := B.levels (l' := l2) hp (fun n hn1 hn2 r hr => (c1 n hn1 (by omega) r hr).trans (hm.low n hn1 hn2 r hr)) (fun n hn1 hn2 => (c2 n hn1 hn2).trans (hm.lat n hn1 hn2)) (fun i hi r hr => by
    have hl := pg_len (nx := nx) hp hi
    exact (c1 (nx + i) (by omega) (by omega) r (by omega)).trans (hh i hi r hr))
  refine ⟨_, _, _, _, _, ⟨by omega, h1, h3, h4', ?_, ?_, ?_⟩, h5.1, h5.2, h6', by rw [hl2]; exact b3 (a3 (hm.nats B.nats)), by rw [hl2, putAt_length, putAt_length, hlen], fun _ _ _ _ => .inr trivial⟩
  · rw [Nat.add_sub_cancel, upd_at]; exact h1'
  · rw [Nat.add_sub_cancel, upd_at, hl2, cellAt_other (by omega), cellAt_same ⟨by omega, by rw [hlen]; omega⟩]
  · rw [Nat.add_sub_cancel, upd_at, hl2, cellAt_same ⟨by omega, by rw [putAt_length, hlen]; omega⟩]
end
/-- The slots of the keys. -/
def slotsOf (ks : List ByteArray) : List Sl := ks.zipIdx.map fun x => (x.1, x.2 + 1)
theorem slotsOf_length (ks : List ByteArray) : (slotsOf ks).length = ks.length := by unfold slotsOf; simp
theorem slotsOf_at {ks : List ByteArray} {i : Nat} {x : Sl} (h : (slotsOf ks)[i]? = some x) : ks[i]? = some x.1 ∧ x.2 = i + 1 := by
  unfold slotsOf at h
  rw [List.getElem?_map, List.getElem?_zipIdx] at h
  cases hk : ks[i]? with
  | none => rw [hk] at h; cases h
  | some k => rw [hk] at h; cases h; exact ⟨rfl, by simp⟩
theorem slotsOf_get {ks : List ByteArray} {i : Nat} {k : ByteArray} (h : ks[i]? = some k) : (slotsOf ks)[i]? = some (k, i + 1) := by
  unfold slotsOf
  rw [List.getElem?_map, List.getElem?_zipIdx, h]; simp
theorem slotsOf_step {ks : List ByteArray} {i : Nat} {k : ByteArray} (h : ks[i]? = some k) : slotsOf (ks.take (i + 1)) = slotsOf (ks.take i) ++ [(k, i + 1)] := by
  apply List.ext_getElem?
  intro j
  have hl : (ks.take i).length = i := by rw [List.length_take]; have := (List.getElem?_eq_some_iff.1 h).1; omega
  rcases Nat.lt_trichotomy j i with e | e | e
  · rw [List.getElem?_append_left (by rw [slotsOf_length, hl]; exact e)]
    unfold slotsOf
    rw [List.getElem?_map, List.getElem?_map, List.getElem?_zipIdx, List.getElem?_zipIdx, List.getElem?_take, List.getElem?_take, if_pos (by omega), if_pos e]
  · subst e
    rw [List.getElem?_append_right (by rw [slotsOf_length, hl]; exact Nat.le_refl _), slotsOf_length, hl, Nat.sub_self]
    rw [slotsOf_get (k := k) (by rw [List.getElem?_take, if_pos (by omega)]; exact h)]; rfl
  · rw [List.getElem?_append_right (by rw [slotsOf_length, hl]; omega), slotsOf_length, hl, List.getElem?_eq_none (by rw [slotsOf_length, List.length_take]; omega), List.getElem?_eq_none (by simp; omega)]
/-- At the beginning. -/
theorem Bt.start {F : Nat} {l : List Cel} {ks : List ByteArray} {hide : Bool} (hN : Nats l) (hb : 10 + 100 * (F : Int) + 400 ≤ (l.length : Int)) (hz : ∀ n, 1 ≤ n → n ≤ 100 → cellAt l (nla F n) = cel0) (hk : ks.length ≤ 40) (ha : ∀ i a b, ks[i]? = some a → ks[i + 1]? = some b → kl a b = true) (st mm : Nat → Nat) (lo : Nat → Nat → ByteArray) (pg : Nat → Nat → Pg) (off : Nat → Nat) : Bt F l 0 1 (slotsOf ks) ks hide st mm lo pg off where
  nats := hN
  big := hb
  zero := hz
  asc := asc_of_get fun i x y hx hy => ha i x.1 y.1 (slotsOf_at hx).1 (slotsOf_at hy).1
  ref := fun x hx => by
    obtain ⟨i, hi⟩ := List.mem_iff_getElem?.1 hx
    obtain ⟨h1, h2⟩ := slotsOf_at hi
    have := (List.getElem?_eq_some_iff.1 h1).1
    omega
  lev := fun L' h => by omega
  up := fun L' h => by omega
  ord := fun L' h => by omega
  base := fun _ => ⟨rfl, slotsOf_length ks, by rw [slotsOf_length]; exact hk, fun i x hx => slotsOf_at hx⟩
  more := fun L' e => by omega
  leaves := fun h => by omega
  full := fun _ L' h => by omega
end Go.Proofs.Ytboieccjikcdiaa
