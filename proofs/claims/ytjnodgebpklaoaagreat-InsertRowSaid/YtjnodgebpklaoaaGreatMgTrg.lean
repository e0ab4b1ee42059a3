/-
 A row of leaves as a tree of one level, for the View's texts. Condition: none but the pages in the memory.
-/
import Derived.Test.YtjnodgebpklaoaaGreatMgRow
import Derived.Test.YtjnodgebpklaoaaGreatTgSndA
import Derived.Test.YtjnodgebpklaoaaGreatMgPath
import Derived.Test.YtjnodgebpklaoaaGreatTgTree
import Derived.Test.YtjnodgebpklaoaaGreatMgRes
namespace Go.Proofs.YtjnodgebpklaoaaGreat
section
open Go.RowKit Go.Deep Plain
set_option linter.unusedVariables false

def atI (R : List (Nat × Pg)) (i : Nat) : Nat × Pg := (R[i]?).getD (0, ⟨0, ⟨#[]⟩, true, 0, []⟩)
def nRw (R : List (Nat × Pg)) (i : Nat) : Nat := (atI R i).1
def pRw (R : List (Nat × Pg)) (i : Nat) : Pg := (atI R i).2
def loRw (lo : ByteArray) (R : List (Nat × Pg)) : Nat → ByteArray
 | 0 => lo
 | i + 1 => (pRw R i).hi
theorem atI_some {R : List (Nat × Pg)} {i : Nat} (h : i < R.length) : R[i]? = some (atI R i) := by
 unfold atI; rw [List.getElem?_eq_getElem h]; rfl
theorem atI_mem {R : List (Nat × Pg)} {i : Nat} (h : i < R.length) : atI R i ∈ R := List.mem_of_getElem? (atI_some h)
theorem loRw_cons (lo : ByteArray) (x : Nat × Pg) (R : List (Nat × Pg)) (i : Nat) : loRw lo (x :: R) (i + 1) = loRw x.2.hi R i := by
 cases i with
 | zero => rfl
 | succ i => rfl
theorem RowR.ith {F : Nat} : ∀ {R : List (Nat × Pg)} {lo : ByteArray}, RowR F lo R → ∀ i, i < R.length → PgR F (loRw lo R i) (pRw R i) ∧
  (i + 1 < R.length → (pRw R i).la = false ∧ (pRw R i).rt = nRw R (i + 1) ∧ kl (loRw lo R i) (pRw R i).hi = true) ∧ (i + 1 = R.length → (pRw R i).la = true ∧ (pRw R i).rt = 0)
 | [], _, h, _, _ => h.elim
 | [(n, P)], lo, h, 0, _ => ⟨h.2.2, fun h => by simp at h, fun _ => ⟨h.1, h.2.1⟩⟩
 | [(n, P)], lo, h, i + 1, hi => by simp at hi
 | (n, P) :: (n2, P2) :: r, lo, h, 0, hi => ⟨h.head, fun _ => ⟨h.1, h.2.1, h.2.2.1⟩, fun h => by simp at h⟩
 | (n, P) :: (n2, P2) :: r, lo, h, i + 1, hi => by
  obtain ⟨h1, h2, h3⟩ := h.tail.ith i (by simp only [List.length_cons] at hi ⊢; omega)
  refine ⟨?_, fun hj => ?_, fun hj => ?_⟩
  ·rw [loRw_cons]; exact h1
  ·rw [loRw_cons]; exact h2 (by simp only [List.length_cons] at hj ⊢; omega)
  ·exact h3 (by simp only [List.length_cons] at hj ⊢; omega)
theorem at_low' {F : Nat} {key : ByteArray} : ∀ {R : List (Nat × Pg)} {lo : ByteArray}, RowR F lo R → kl key lo = false → ∀ {t : Nat} {P : Pg}, atR key R = some (t, P) → ∃ i, R[i]? = some (t, P) ∧ kl key (loRw lo R i) = false
 | [], _, h, _, _, _, _ => h.elim
 | (n, P0) :: r, lo, h, hk, t, P, ht => by
  unfold atR at ht
  split at ht
  ·cases ht; exact ⟨0, rfl, hk⟩
  ·rename_i hc
   cases r with
   | nil => cases ht
   | cons z r =>
    obtain ⟨i, h1, h2⟩ := at_low' h.tail (cov_hi hc).2 ht
    exact ⟨i + 1, h1, by rw [loRw_cons]; exact h2⟩
section
variable {F : Nat} {R : List (Nat × Pg)} {l : List Cel} {kk : Nat}
theorem RowR.tree (h : RowR F ⟨#[]⟩ R) (hn : (R.map Prod.fst).Nodup) (hnd : ∀ x ∈ R, Nd F l x.1 x.2) (hk : ∀ x ∈ R, 1 ≤ x.1 ∧ x.1 ≤ kk) (h1 : R.length ≤ kk) (hkk : kk ≤ 100) : LvG F l kk (nRw R) R.length 0 (loRw ⟨#[]⟩ R) (pRw R) where
 pos := by
  cases R with
  | nil => exact h.elim
  | cons x r => simp
 top := by omega
 num := fun i hi => hk _ (atI_mem hi)
 inj := fun i j hi hj e => by
  have e1 : (R.map Prod.fst)[i]? = some (nRw R i) := by rw [List.getElem?_map, atI_some hi]; rfl
  have e2 : (R.map Prod.fst)[j]? = some (nRw R j) := by rw [List.getElem?_map, atI_some hj]; rfl
  have hi' : i < (R.map Prod.fst).length := by rw [List.length_map]; exact hi
  exact (List.getElem?_inj hi' hn).1 (by rw [e1, e2, e])
 nd := fun i hi => hnd _ (atI_mem hi)
 lv := fun i hi => (h.ith i hi).1.lv
 low0 := rfl
 next := fun i hi => by
  obtain ⟨a, b, -⟩ := (h.ith i (by omega)).2.1 hi
  exact ⟨a, b, rfl⟩
 asc := fun i hi => ((h.ith i (by omega)).2.1 hi).2.2
 last := fun i hi => (h.ith i (by omega)).2.2 hi
theorem allS_app (a b : List (Nat × Pg)) : allS (a ++ b) = allS a ++ allS b := List.flatMap_append
theorem allS_cut (i : Nat) (hi : i < R.length) : allS R = allS (R.take i) ++ ((pRw R i).xs ++ allS (R.drop (i + 1))) := by
 have h1 : R = R.take i ++ (atI R i :: R.drop (i + 1)) := by
  have h2 : R[i] = atI R i := Option.some.inj ((List.getElem?_eq_getElem hi).symm.trans (atI_some hi))
  rw [← h2, List.getElem_cons_drop, List.take_append_drop]
 conv => lhs; rw [h1]
 rw [allS_app, allS_cons]; rfl
def ksRw (R : List (Nat × Pg)) : List ByteArray := (allS R).map Prod.fst
def rRw (R : List (Nat × Pg)) (p : Nat) : Nat := ((allS R)[p]?.getD (⟨#[]⟩, 0)).2
def offRw (R : List (Nat × Pg)) (i : Nat) : Nat := (allS (R.take i)).length
theorem ksRw_len : (ksRw R).length = (allS R).length := List.length_map ..
theorem RowR.leaves (h : RowR F ⟨#[]⟩ R) : LeavesG (ksRw R) (rRw R) R.length (loRw ⟨#[]⟩ R) (pRw R) (offRw R) where
 zero := rfl
 all := by unfold offRw; rw [List.take_length, ksRw_len]
 step := fun i hi => by
  unfold offRw
  have h2 : R[i] = atI R i := Option.some.inj ((List.getElem?_eq_getElem hi).symm.trans (atI_some hi))
  rw [List.take_succ_eq_append_getElem hi, allS_app, List.length_append, h2, allS_cons]
  show _ + (((atI R i).2.xs ++ allS []).length) = _
  rw [List.length_append]; rfl
 slot := fun i hi q x hq => by
  have h1 : (allS R)[offRw R i + q]? = some x := by
   rw [allS_cut i hi, List.getElem?_append_right (by unfold offRw; omega)]
   show ((pRw R i).xs ++ _)[offRw R i + q - offRw R i]? = _
   obtain ⟨hql, -⟩ := List.getElem?_eq_some_iff.1 hq
   rw [Nat.add_sub_cancel_left, List.getElem?_append_left hql]; exact hq
  refine ⟨?_, ?_⟩
  ·unfold ksRw; rw [List.getElem?_map, h1]; rfl
  ·unfold rRw; rw [h1]; rfl
 low := fun i hi x hx => (h.ith i hi).1.low x hx
 high := fun i hi x hx => (h.ith i hi).1.high x hx
theorem refs_of (hb : ∀ x ∈ allS R, 1 ≤ x.2 ∧ x.2 ≤ (allS R).length) (hn : ((allS R).map Prod.snd).Nodup) : RefsG (rRw R) (ksRw R).length := by
 rw [ksRw_len]
 have ha : ∀ p, p < (allS R).length → ∃ x, (allS R)[p]? = some x ∧ rRw R p = x.2 := fun p hp =>
  ⟨_, List.getElem?_eq_getElem hp, by unfold rRw; rw [List.getElem?_eq_getElem hp]; rfl⟩
 refine ⟨fun p hp => ?_, fun p q hp hq e => ?_⟩
 ·obtain ⟨x, h1, h2⟩ := ha p hp
  rw [h2]; exact hb x (List.mem_of_getElem? h1)
 ·obtain ⟨x, h1, h2⟩ := ha p hp
  obtain ⟨y, h3, h4⟩ := ha q hq
  have hp' : p < ((allS R).map Prod.snd).length := by rw [List.length_map]; exact hp
  exact (List.getElem?_inj hp' hn).1 (by rw [List.getElem?_map, List.getElem?_map, h1, h3]; show some x.2 = some y.2; rw [← h2, ← h4, e])
end
end
end Go.Proofs.YtjnodgebpklaoaaGreat
namespace Go.Proofs.YtjnodgebpklaoaaGreat
section
open Go.RowKit Go.Deep Plain
set_option linter.unusedVariables false

def RjG (P : Pg) (wd : Nat) (j : Nat) (y : Rst) : Prop := (j = 0 ∧ y = rst0) ∨ ∃ k, j = k + 1 ∧ k ≤ P.xs.length + 3 ∧ y = ⟨if k = P.xs.length + 3 then 2 else 1, wd, got P k⟩
theorem RjG.ok {F : Nat} {P : Pg} {wd j : Nat} {y : Rst} (hF : P.xs.length ≤ F) (hw : wd < 18446744073709551616) (h : RjG P wd j y) : Okr F y ∧ y.ph < 3 := by
 rcases h with ⟨rfl, rfl⟩ | ⟨k, rfl, hk, rfl⟩
 ·exact ⟨okr0 F, by decide⟩
 ·refine ⟨⟨?_, hw, got_oks hF hk, fun e => ?_⟩, ?_⟩
  ·show (if k = P.xs.length + 3 then 2 else 1) ≤ 3
   split <;> omega
  ·have e' : (if k = P.xs.length + 3 then 2 else 1) = 1 := e
   by_cases h0 : k = 0
   ·exact .inl (by show k = 0; exact h0)
   ·refine .inr ?_
    show k < if k = 0 then 0 else P.xs.length + 3
    rw [if_neg h0]
    split at e'
    ·omega
    ·omega
  ·show (if k = P.xs.length + 3 then 2 else 1) < 3
   split <;> omega
theorem RjG.step {F n wd : Nat} {l : List Cel} {P : Pg} {j : Nat} {y : Rst} (hn : Nats l) (hP : Holds (nad F n) l P) (hw : Wf P) (hF : P.xs.length ≤ F) (hl : (cellAt l (nla F n)).1 = (wd : Int)) (hb : ¬ wd / 2 % 2 = 1) (h : RjG P wd j y) :
  (RjG P wd (j + 1) (rgo F n l y) ∧ (rgo F n l y).ph ≠ 3 ∧ j + 1 < P.xs.length + 5) ∨ (j + 1 = P.xs.length + 5 ∧ rgo F n l y = ⟨3, wd, got P (P.xs.length + 3)⟩) := by
 have ew : (cellAt l (nla F n)).1.toNat = wd := by rw [hl]; rfl
 rcases h with ⟨rfl, rfl⟩ | ⟨k, rfl, hk, rfl⟩
 ·have e : rgo F n l rst0 = ⟨1, wd, got P 0⟩ := by
   rw [got_zero]
   unfold rgo rcell raddr
   rw [if_pos (show rst0.ph < 3 by decide), if_neg (show ¬ rst0.ph = 1 by decide)]
   unfold rnext
   rw [if_pos (show rst0.ph = 0 from rfl), ew, if_neg hb]
  rw [e]
  exact .inl ⟨.inr ⟨0, rfl, by omega, by rw [if_neg (by omega)]⟩, by show (1 : Nat) ≠ 3; omega, by omega⟩
 ·by_cases hk3 : k = P.xs.length + 3
  ·refine .inr ⟨by omega, ?_⟩
   subst hk3
   rw [if_pos rfl]
   unfold rgo rcell raddr
   simp only
   rw [if_pos (by omega), if_neg (by omega), ew]
   unfold rnext
   simp only
   rw [if_neg (by omega), if_neg (by omega), if_pos trivial]
  ·rw [if_neg hk3]
   have e : rgo F n l ⟨1, wd, got P k⟩ = ⟨if k + 1 = P.xs.length + 3 then 2 else 1, wd, got P (k + 1)⟩ := by
    unfold rgo rcell raddr
    simp only
    rw [if_pos (by omega), if_pos trivial]
    have hrd : (got P k).rd = k := rfl
    rw [hrd]
    have hc := nat_toNat (hn (nad F n k))
    have hpc := hP k (by omega)
    have ht : tk F (got P k) (cellAt l (nad F n k)).1.toNat (cellAt l (nad F n k)).2.1 (cellAt l (nad F n k)).2.2.toNat = got P (k + 1) := by
     apply tk_got hw hF (by omega)
     rw [← hpc]; exact hc.1
    unfold rnext
    simp only
    rw [if_neg (by omega), if_pos trivial, ht]
    have hgl := got_last (P := P) (r := k) (by omega)
    have h2 : ((got P (k + 1)).rd = (got P (k + 1)).en) ↔ (k + 1 = P.xs.length + 3) := by
     have := hgl; rw [Bool.eq_iff_iff] at this; simpa using this
    by_cases hz : k + 1 = P.xs.length + 3
    ·rw [if_pos (h2.2 hz), if_pos hz]
    ·rw [if_neg (fun e => hz (h2.1 e)), if_neg hz]
   rw [e]
   refine .inl ⟨.inr ⟨k + 1, rfl, by omega, rfl⟩, ?_, by omega⟩
   show (if k + 1 = P.xs.length + 3 then 2 else 1) ≠ 3
   split <;> omega

inductive FWs (F : Nat) (key : ByteArray) (lvl : Nat) (l : List Cel) : Nat → Nat → Fs → Prop
 | root {n : Nat} {P : Pg} {D t : Nat} {lo lo2 : ByteArray} {M : Int} {K : ByteArray} (hc : cellAt l 0 = ((n : Int), K, M)) (p : WPath F l (nxF key lvl) n P lo D t lo2) : FWs F key lvl l (D + 1) t .root
 | rd {n wd : Nat} {P : Pg} {lo lo2 : ByteArray} {D t j : Nat} {y : Rst} (p : WPath F l (nxF key lvl) n P lo D t lo2) (hl : (cellAt l (nla F n)).1 = (wd : Int)) (hb : ¬ wd / 2 % 2 = 1) (hj : j < P.xs.length + 5) (hy : RjG P wd j y) : FWs F key lvl l (D - j) t (.rd n y)
 | arr {n : Nat} {y : Rst} : FWs F key lvl l 0 n (.arr n y)
 | no : FWs F key lvl l 0 0 .no
theorem nats_word {l : List Cel} (hn : Nats l) {i : Int} {wd : Nat} (h : (cellAt l i).1 = (wd : Int)) : wd < 18446744073709551616 := by
 obtain ⟨N, M, K, e, hN, -⟩ := hn i
 rw [e] at h
 have h2 : (N : Int) = (wd : Int) := h
 omega
theorem FWs.step {F : Nat} {key : ByteArray} {lvl : Nat} {l : List Cel} (hn : Nats l) {d t : Nat} {s : Fs} (f : FWs F key lvl l (d + 1) t s) :
  Fok F key lvl l s ∧ FWs F key lvl l d t (fgo F key lvl l s) ∧ (fgo F key lvl l s).fin = (d == 0) := by
 generalize hD : d + 1 = D at f
 cases f with
 | arr => omega
 | no => omega
 | root hc p =>
  rename_i n P D lo lo2 M K
  obtain rfl : d = D := by omega
  have hl := p.len
  obtain ⟨wd, hw, hb⟩ := p.nd.lat
  have e1 : (cellAt l 0).1.toNat = n := by rw [hc]; rfl
  have e2 : fgo F key lvl l .root = .rd n rst0 := by show Fs.rd _ _ = _; rw [e1]
  refine ⟨by show (cellAt l 0).1.toNat ≠ 0; rw [e1]; exact p.nd.ne, ?_, ?_⟩
  ·rw [e2]
   exact .rd (j := 0) p hw hb (by omega) (.inl ⟨rfl, rfl⟩)
  ·rw [e2]; show false = _; simp; omega
 | rd p hw hb hj hy =>
  rename_i n wd P lo lo2 D j y
  have hl := p.len
  have nd := p.nd
  have hP := nd.holds
  obtain ⟨ho, hp⟩ := hy.ok nd.len (nats_word hn hw)
  have e0 : fgo F key lvl l (.rd n y) = fdo key lvl n (rgo F n l y) := rfl
  rw [e0]
  show (Okr F y ∧ y.ph < 3 ∧ ((rgo F n l y).ph = 3 → Asc (rgo F n l y).s.xs ∧ ((nxF key lvl (rgo F n l y).s.pg).1 = 1 → (nxF key lvl (rgo F n l y).s.pg).2.1 ≠ 0))) ∧ _
  rcases hy.step hn hP nd.wf nd.len hw hb with ⟨h1, h2, h3⟩ | ⟨h1, h2⟩
  ·have e1 : fdo key lvl n (rgo F n l y) = .rd n (rgo F n l y) := if_neg h2
   rw [e1]
   refine ⟨⟨ho, hp, fun e => absurd e h2⟩, ?_, ?_⟩
   ·have := FWs.rd (F := F) (key := key) (lvl := lvl) p hw hb h3 h1
    rwa [show D - (j + 1) = d by omega] at this
   ·show false = _; simp; omega
  ·have hpg : (got P (P.xs.length + 3)).pg = P := got_end P
   have e1 : fdo key lvl n (rgo F n l y) = (if (nxF key lvl P).1 = 1 then .rd (nxF key lvl P).2.1 rst0 else if (nxF key lvl P).1 = 2 then .arr n (rgo F n l y) else .no) := by
    unfold fdo
    rw [h2]; show (if (3 : Nat) = 3 then _ else _) = _
    rw [if_pos rfl]
    show (if (nxF key lvl (got P (P.xs.length + 3)).pg).1 = 1 then _ else _) = _
    rw [hpg]
   have e2 : (rgo F n l y).s.pg = P := by rw [h2]; exact hpg
   have e3 : (rgo F n l y).s.xs = P.xs := by
    have : (rgo F n l y).s.pg.xs = P.xs := by rw [e2]
    exact this
   rw [e1, e2, e3]
   rcases p.inv with ⟨hD0, rfl, rfl, e⟩ | ⟨hD0, rfl, rfl, e⟩ | ⟨P2, lo3, m, d2, hD0, e, p2⟩
   ·obtain rfl : d = 0 := by omega
    rw [e]
    exact ⟨⟨ho, hp, fun _ => ⟨nd.asc, fun e => by omega⟩⟩, by rw [if_neg (by omega), if_pos rfl]; exact .arr, by rw [if_neg (by omega), if_pos rfl]; rfl⟩
   ·obtain rfl : d = 0 := by omega
    rw [e]
    exact ⟨⟨ho, hp, fun _ => ⟨nd.asc, fun e => by omega⟩⟩, by rw [if_neg (by omega), if_neg (by omega)]; exact .no, by rw [if_neg (by omega), if_neg (by omega)]; rfl⟩
   ·have hl2 := p2.len
    obtain rfl : d = d2 := by omega
    obtain ⟨wd2, hw2, hb2⟩ := p2.nd.lat
    have e4 : (nxF key lvl P).1 = 1 := by rw [e]
    have e5 : (nxF key lvl P).2.1 = m := by rw [e]
    rw [e4, e5]
    refine ⟨⟨ho, hp, fun _ => ⟨nd.asc, fun _ => p2.nd.ne⟩⟩, ?_, ?_⟩
    ·rw [if_pos rfl]
     exact .rd (j := 0) p2 hw2 hb2 (by omega) (.inl ⟨rfl, rfl⟩)
    ·rw [if_pos rfl]; show false = _; simp; omega
structure TgG (F : Nat) (key : ByteArray) (l : List Cel) (t w0 : Nat) (P : Pg) : Prop where
 nd : Nd F l t P
 one : 1 ≤ t
 top : t ≤ 100
 cov : (P.la || ltB key.toList P.hi.toList) = true
 lat : cellAt l (nla F t) = ((w0 : Int), (⟨#[]⟩ : ByteArray), (0 : Int))
 free : w0 % 4 = 0
 in' : 0 ≤ nla F t ∧ nla F t < l.length
inductive Lrs (F : Nat) (key : ByteArray) (lvl : Nat) (l : List Cel) (t w0 : Nat) (P : Pg) : Nat → Ls → List Cel → Prop
 | fnd {d : Nat} {s : Fs} (h : FWs F key lvl l (d + 1) t s) : Lrs F key lvl l t w0 P (d + 1 + (P.xs.length + 5)) (.fnd s) l
 | seek {N : Nat} {K : ByteArray} {M : Int} (hN : N < 18446744073709551616) : Lrs F key lvl l t w0 P (P.xs.length + 5) (.acq t false N K M) l
 | ready : Lrs F key lvl l t w0 P (P.xs.length + 4) (.acq t true w0 ⟨#[]⟩ 0) l
 | own {r : Nat} (hr : r < P.xs.length + 3) : Lrs F key lvl l t w0 P (P.xs.length + 3 - r) (.own t (lockW w0) (got P r)) (putAt l (nla F t) (((lockW w0 : Nat) : Int), (⟨#[]⟩ : ByteArray), (0 : Int)))
 | lck : Lrs F key lvl l t w0 P 0 (.lck t (lockW w0) (got P (P.xs.length + 3))) (putAt l (nla F t) (((lockW w0 : Nat) : Int), (⟨#[]⟩ : ByteArray), (0 : Int)))
section
variable {F : Nat} {key : ByteArray} {lvl : Nat} {l : List Cel} {t w0 : Nat} {P : Pg}
theorem TgG.word (T : TgG F key l t w0 P) (hn : Nats l) : w0 < 18446744073709551616 := nats_word hn (i := nla F t) (by rw [T.lat])
theorem Lrs.fin {d : Nat} {s : Ls} {m : List Cel} (h : Lrs F key lvl l t w0 P d s m) : s.fin = (d == 0) := by
 cases h with
 | fnd h => show false = _; simp
 | seek hN => show false = _; simp
 | ready => show false = _; simp
 | own hr => show false = _; simp; omega
 | lck => rfl
theorem Lrs.step (h4 : 4 ≤ F) (h6 : F ≤ 6) (hn : Nats l) (T : TgG F key l t w0 P) {d : Nat} {s : Ls} {m : List Cel} (h : Lrs F key lvl l t w0 P (d + 1) s m) :
  Nats m ∧ Lok F key lvl m s ∧ Lrs F key lvl l t w0 P d (lgo F key lvl m s) (lmem F m s) := by
 have hw := T.word hn
 have hfree := T.free
 generalize hD : d + 1 = D at h
 cases h with
 | fnd hf =>
  rename_i d' s
  obtain ⟨h1, h2, h3⟩ := hf.step hn
  refine ⟨hn, h1, ?_⟩
  have e0 : lgo F key lvl l (.fnd s) = ldo (fgo F key lvl l s) := rfl
  have e9 : lmem F l (.fnd s) = l := rfl
  rw [e0, e9]
  generalize fgo F key lvl l s = s' at h2 h3
  cases s' with
  | root =>
   have hd0 : d' ≠ 0 := by intro e; rw [e] at h3; cases h3
   obtain ⟨d2, rfl⟩ : ∃ d2, d' = d2 + 1 := ⟨d' - 1, by omega⟩
   have := Lrs.fnd (w0 := w0) (P := P) h2
   rwa [show d2 + 1 + (P.xs.length + 5) = d by omega] at this
  | rd n y =>
   have hd0 : d' ≠ 0 := by intro e; rw [e] at h3; cases h3
   obtain ⟨d2, rfl⟩ : ∃ d2, d' = d2 + 1 := ⟨d' - 1, by omega⟩
   have := Lrs.fnd (w0 := w0) (P := P) h2
   rwa [show d2 + 1 + (P.xs.length + 5) = d by omega] at this
  | arr n y =>
   have e : n = t ∧ d' = 0 := by cases h2; exact ⟨rfl, rfl⟩
   obtain ⟨rfl, rfl⟩ := e
   have e1 : ldo (.arr n y) = .acq n false 0 ⟨#[]⟩ 0 := if_pos ⟨T.one, T.top⟩
   rw [e1]
   have := Lrs.seek (F := F) (key := key) (lvl := lvl) (l := l) (t := n) (w0 := w0) (P := P) (N := 0) (K := ⟨#[]⟩) (M := 0) (by omega)
   rwa [show P.xs.length + 5 = d by omega] at this
  | no =>
   have e : 0 = t := by cases h2; rfl
   have := T.one
   omega
 | seek hN =>
  rename_i N K M
  refine ⟨hn, hN, ?_⟩
  have e1 : lgo F key lvl l (.acq t false N K M) = .acq t true w0 ⟨#[]⟩ 0 := by
   show Ls.acq t ((cellAt l (nla F t)).1.toNat % 2 == 0) (cellAt l (nla F t)).1.toNat (cellAt l (nla F t)).2.1 (cellAt l (nla F t)).2.2 = _
   rw [T.lat]
   have : ((w0 : Int).toNat % 2 == 0) = true := by simp; omega
   show Ls.acq t ((w0 : Int).toNat % 2 == 0) (w0 : Int).toNat _ _ = _
   rw [this]; rfl
  rw [e1]
  have := Lrs.ready (F := F) (key := key) (lvl := lvl) (l := l) (t := t) (w0 := w0) (P := P)
  rwa [show P.xs.length + 4 = d by omega] at this
 | ready =>
  refine ⟨hn, hw, ?_⟩
  have hsw : swaps l (nla F t) (w0 : Int) = true := by
   unfold swaps
   have hin : isIn l (nla F t) = true := by have := T.in'; unfold isIn; simp; omega
   rw [hin, T.lat]; simp
  have e1 : lgo F key lvl l (.acq t true w0 ⟨#[]⟩ 0) = .own t (lockW w0) (got P 0) := by
   show (if swaps l (nla F t) (w0 : Int) then Ls.own t (lockW w0) cs0 else .acq t false w0 ⟨#[]⟩ 0) = _
   rw [if_pos hsw, got_zero]
  have e2 : lmem F l (.acq t true w0 ⟨#[]⟩ 0) = putAt l (nla F t) (((lockW w0 : Nat) : Int), (⟨#[]⟩ : ByteArray), (0 : Int)) := by
   show (if swaps l (nla F t) (w0 : Int) then putAt l (nla F t) ((lockW w0 : Nat), ⟨#[]⟩, 0) else l) = _
   rw [if_pos hsw]
  rw [e1, e2]
  have := Lrs.own (F := F) (key := key) (lvl := lvl) (l := l) (t := t) (w0 := w0) (P := P) (r := 0) (by omega)
  rwa [show P.xs.length + 3 - 0 = d by omega] at this
 | own hr =>
  rename_i r
  have hn2 : Nats (putAt l (nla F t) (((lockW w0 : Nat) : Int), (⟨#[]⟩ : ByteArray), (0 : Int))) := hn.put _ ⟨lockW w0, 0, _, rfl, lockW_lt hw, by omega⟩
  generalize hl2 : putAt l (nla F t) (((lockW w0 : Nat) : Int), (⟨#[]⟩ : ByteArray), (0 : Int)) = l2 at hn2 ⊢
  have hP : Holds (nad F t) l2 P := fun q hq => by
   rw [← hl2, cellAt_other (Ne.symm (nad_ne h4 h6 T.one T.top (by have := T.nd.len; omega)))]; exact T.nd.holds q hq
  have hc := nat_toNat (hn2 (nad F t r))
  have hpc := hP r (by omega)
  have hrd : (got P r).rd = r := rfl
  have ht : tk F (got P r) (cellAt l2 (nad F t r)).1.toNat (cellAt l2 (nad F t r)).2.1 (cellAt l2 (nad F t r)).2.2.toNat = got P (r + 1) := by
   apply tk_got T.nd.wf T.nd.len (by omega)
   rw [← hpc]; exact hc.1
  have e1 : lgo F key lvl l2 (.own t (lockW w0) (got P r)) = lown key t (lockW w0) (got P (r + 1)) := by
   show lown key t (lockW w0) (tk F (got P r) (cellAt l2 (nad F t (got P r).rd)).1.toNat (cellAt l2 (nad F t (got P r).rd)).2.1 (cellAt l2 (nad F t (got P r).rd)).2.2.toNat) = _
   rw [hrd, ht]
  have e2 : lmem F l2 (.own t (lockW w0) (got P r)) = l2 := rfl
  rw [e1, e2]
  refine ⟨hn2, ⟨got_oks T.nd.len (by omega), ?_⟩, ?_⟩
  ·by_cases h0 : r = 0
   ·exact .inl h0
   ·refine .inr ?_
    show r < if r = 0 then 0 else P.xs.length + 3
    rw [if_neg h0]; exact hr
  ·have hgl := got_last (P := P) (r := r) hr
   have h2 : ((got P (r + 1)).rd = (got P (r + 1)).en) ↔ (r + 1 = P.xs.length + 3) := by
    have := hgl; rw [Bool.eq_iff_iff] at this; simpa using this
   by_cases hz : r + 1 = P.xs.length + 3
   ·unfold lown
    rw [if_pos (h2.2 hz), hz]
    have hla : (got P (P.xs.length + 3)).la = P.la := by show (if P.xs.length + 3 < 2 then false else P.la) = P.la; rw [if_neg (by omega)]
    have hhi : (got P (P.xs.length + 3)).hi = P.hi := by show (if P.xs.length + 3 < 2 then (⟨#[]⟩ : ByteArray) else P.hi) = P.hi; rw [if_neg (by omega)]
    rw [hla, hhi, if_pos T.cov]
    obtain rfl : d = 0 := by omega
    rw [← hl2]; exact .lck
   ·unfold lown
    rw [if_neg (fun e => hz (h2.1 e))]
    have := Lrs.own (F := F) (key := key) (lvl := lvl) (l := l) (t := t) (w0 := w0) (P := P) (r := r + 1) (by omega)
    rw [hl2] at this
    rwa [show P.xs.length + 3 - (r + 1) = d by omega] at this
 | lck => omega
end
end
end Go.Proofs.YtjnodgebpklaoaaGreat
namespace Go.Proofs.YtjnodgebpklaoaaGreat
section
open Go.RowKit Go.Deep Plain
set_option linter.unusedVariables false

structure RwS (F n kk : Nat) (R : List (Nat × Pg)) (l : List Cel) : Prop where
 len : l.length = n
 room : 10 + 100 * (F : Int) + 400 ≤ (n : Int)
 nats : Nats l
 row : RowR F ⟨#[]⟩ R
 nod : (R.map Prod.fst).Nodup
 fst : nRw R 0 = 1
 hold : ∀ x ∈ R, Holds (nad F x.1) l x.2
 lat : ∀ x ∈ R, ∃ wd : Nat, wd % 4 = 0 ∧ cellAt l (nla F x.1) = ((wd : Int), (⟨#[]⟩ : ByteArray), (0 : Int))
 num : ∀ x ∈ R, 1 ≤ x.1 ∧ x.1 ≤ kk
 cnt : R.length ≤ kk
 k100 : kk ≤ 100
 fits : ∀ x ∈ R, Fits x.2
 c0 : cellAt l 0 = ((1 : Int), (⟨#[]⟩ : ByteArray), (0 : Int))
 c4 : cellAt l 4 = ((kk : Int), (⟨#[]⟩ : ByteArray), (0 : Int))
 far : ∀ i : Int, ((1 ≤ i ∧ i ≤ 3) ∨ (6 ≤ i ∧ i < 10) ∨ 10 + 100 * (F : Int) + 400 ≤ i) → cellAt l i = cel0
theorem nla_rng {F n : Nat} (h4 : 4 ≤ F) (h6 : F ≤ 6) (h1 : 1 ≤ n) (h2 : n ≤ 100) : 10 ≤ nla F n ∧ nla F n + (F : Int) + 4 ≤ 10 + 100 * (F : Int) + 400 := by
 rcases nla_lin h4 h6 h1 h2 with ⟨e, a⟩ | ⟨e, a⟩ | ⟨e, a⟩ <;> omega
theorem nla_apart {F n m : Nat} (h4 : 4 ≤ F) (h6 : F ≤ 6) (h1 : 1 ≤ n) (h2 : n ≤ 100) (h3 : 1 ≤ m) (h5 : m ≤ 100) (hne : n ≠ m) : nla F n + (F : Int) + 4 ≤ nla F m ∨ nla F m + (F : Int) + 4 ≤ nla F n := by
 rcases Nat.lt_or_gt_of_ne hne with h | h
 ·exact .inl (nla_far h4 h6 h1 h h5)
 ·exact .inr (nla_far h4 h6 h3 h h2)
section
variable {F n kk : Nat} {R : List (Nat × Pg)} {l : List Cel} {key : ByteArray} {ref m : Nat} {sp : ByteArray}
theorem RwS.page (h : RwS F n kk R l) {x : Nat × Pg} (hx : x ∈ R) : ∃ lo, PgR F lo x.2 := by
 obtain ⟨i, hi⟩ := List.getElem?_of_mem hx
 obtain ⟨hl, -⟩ := List.getElem?_eq_some_iff.1 hi
 have h1 := (h.row.ith i hl).1
 have h2 : pRw R i = x.2 := by unfold pRw atI; rw [hi]; rfl
 rw [h2] at h1
 exact ⟨_, h1⟩
theorem RwS.nd (h : RwS F n kk R l) {x : Nat × Pg} (hx : x ∈ R) : Nd F l x.1 x.2 := by
 obtain ⟨lo, p⟩ := h.page hx
 obtain ⟨wd, h1, h2⟩ := h.lat x hx
 have h3 := h.num x hx
 exact ⟨by omega, h.hold x hx, ⟨wd, by rw [h2], by omega⟩, p.wf, p.len, p.asc⟩
theorem RwS.tree (h : RwS F n kk R l) : TrG F l 1 kk (fun _ => nRw R) (fun _ => R.length) (fun _ => loRw ⟨#[]⟩ R) (fun _ => pRw R) where
 H1 := Nat.le_refl _
 k100 := h.k100
 lev := fun L hL => by
  obtain rfl : L = 0 := by omega
  exact h.row.tree h.nod (fun x hx => h.nd hx) h.num h.cnt h.k100
 up := fun L hL => by omega
 sum := by show 0 + R.length ≤ kk; have := h.cnt; omega
 one := by
  show 1 ≤ R.length
  exact List.length_pos_iff.2 (by intro e; have := h.row; rw [e] at this; exact this)
 root := by show cellAt l 0 = ((nRw R 0 : Int), _, _); rw [h.fst]; exact h.c0
 tot := h.c4
theorem RwS.tgt (h : RwS F n kk R l) (h4 : 4 ≤ F) (h6 : F ≤ 6) (key : ByteArray) : ∃ (t : Nat) (P : Pg) (w0 : Nat), atR key R = some (t, P) ∧ (t, P) ∈ R ∧ TgG F key l t w0 P := by
 obtain ⟨⟨t, P⟩, h1, h2, h3⟩ := h.row.at key
 obtain ⟨w0, h5, h7⟩ := h.lat _ h2
 have h8 : 1 ≤ t ∧ t ≤ kk := h.num _ h2
 have h9 := h.k100
 have ha := nla_rng h4 h6 h8.1 (by omega)
 have hr := h.room
 have hl := h.len
 exact ⟨t, P, w0, h1, h2, ⟨h.nd h2, h8.1, by omega, h3, h7, h5, by omega⟩⟩
theorem RwS.way (h : RwS F n kk R l) (h6 : F ≤ 6) (key : ByteArray) {t : Nat} {P : Pg} (ht : atR key R = some (t, P)) : ∃ d, d ≤ 1111 ∧ WPath F l (nxF key 0) 1 (pRw R 0) ⟨#[]⟩ d t ⟨#[]⟩ := by
 obtain ⟨d, j, hj, hp, hd, hl, hc⟩ := h.tree.find_root h6 key 0 (by omega)
 refine ⟨d, hd, ?_⟩
 have e1 : nRw R j = t := by
  have hm : (t, P) ∈ R := atR_mem ht
  obtain ⟨i, hi, hli⟩ := at_low' h.row (kl_nil _) ht
  obtain ⟨hil, -⟩ := List.getElem?_eq_some_iff.1 hi
  have e2 : nRw R i = t := by unfold nRw atI; rw [hi]; rfl
  have e3 : pRw R i = P := by unfold pRw atI; rw [hi]; rfl
  have V := h.tree.lev 0 (by omega)
  have hci : cov (pRw R i) key = true := by
   obtain ⟨⟨t', P'⟩, h1, -, h3⟩ := h.row.at key
   rw [ht] at h1; cases h1
   rw [e3]; exact h3
  rw [← V.unique hil hj hli hl hci hc, e2]
 have e0 : nRw R 0 = 1 := h.fst
 have hp' : WPath F l (nxF key 0) (nRw R 0) (pRw R 0) ⟨#[]⟩ d (nRw R j) ⟨#[]⟩ := hp
 rw [e0, e1] at hp'; exact hp'
end
end
end Go.Proofs.YtjnodgebpklaoaaGreat
namespace Go.Proofs.YtjnodgebpklaoaaGreat
section
open Go.RowKit Go.Deep Plain
set_option linter.unusedVariables false
section
variable {F n kk : Nat} {R : List (Nat × Pg)} {l : List Cel} {key : ByteArray} {ref m : Nat} {sp : ByteArray}
theorem far_node (h4 : 4 ≤ F) (h6 : F ≤ 6) {t u : Nat} (h1 : 1 ≤ t) (h2 : t ≤ 100) (h3 : 1 ≤ u) (h5 : u ≤ 100) (hne : u ≠ t) {r : Nat} (hr : r < F + 3) : (∀ j : Nat, j < F + 4 → nad F u r ≠ nla F t + (j : Int)) ∧ (∀ j : Nat, j < F + 4 → nla F u ≠ nla F t + (j : Int)) := by
 have e := nad_eq (F := F) h3 h5 hr
 rcases nla_apart h4 h6 h1 h2 h3 h5 (Ne.symm hne) with h | h
 ·exact ⟨fun j hj => by omega, fun j hj => by omega⟩
 ·exact ⟨fun j hj => by omega, fun j hj => by omega⟩
theorem far_ctr (h4 : 4 ≤ F) (h6 : F ≤ 6) {t : Nat} (h1 : 1 ≤ t) (h2 : t ≤ 100) {i : Int} (hi : i < 10 ∨ 10 + 100 * (F : Int) + 400 ≤ i) : ∀ j : Nat, j < F + 4 → i ≠ nla F t + (j : Int) := by
 have := nla_rng h4 h6 h1 h2
 intro j hj; omega
theorem fits_npg {P : Pg} (h : Fits P) (hl : P.xs.length ≤ 900) (hr : ref < 18446744073709551616) : Fits (npg P key ref) :=
 ⟨h.lv, h.rt, fun x hx => by
  rcases ins_mem.1 hx with rfl | hx
  ·exact hr
  ·exact h.xs x hx, by rw [npg_length]; omega⟩
theorem fits_lpg {X : Pg} (h : Fits X) {id : Nat} (hi : id < 18446744073709551616) : Fits (lpg X m sp id) :=
 ⟨h.lv, hi, fun x hx => h.xs x (List.mem_of_mem_take hx), by
  have := h.len
  show (X.xs.take m).length < _
  rw [List.length_take]; omega⟩
theorem fits_rpg {X : Pg} (h : Fits X) : Fits (rpg X m) :=
 ⟨h.lv, h.rt, fun x hx => h.xs x (List.mem_of_mem_drop hx), by
  have := h.len
  show (X.xs.drop m).length < _
  rw [List.length_drop]; omega⟩
theorem putR_fst0 {R : List (Nat × Pg)} {id : Nat} : nRw (putR F key ref id m sp R) 0 = nRw R 0 := by
 cases R with
 | nil => rfl
 | cons x r =>
  obtain ⟨P', r', e⟩ := putR_head (F := F) (key := key) (ref := ref) (id := id) (m := m) (sp := sp) x.1 x.2 r
  rw [e]; rfl
theorem RwS.upd0 (h : RwS F n kk R l) (h4 : 4 ≤ F) (h6 : F ≤ 6) {t : Nat} {P : Pg} (ht : atR key R = some (t, P)) (hh : has key P.xs = false) (hF : ¬ F < (npg P key ref).xs.length) (hrf : ref < 18446744073709551616) {l' : List Cel} (hl : l'.length = n) (hN : Nats l')
  (hX : Holds (nad F t) l' (npg P key ref)) {wd : Nat} (hw : wd % 4 = 0) (hlt : cellAt l' (nla F t) = ((wd : Int), (⟨#[]⟩ : ByteArray), (0 : Int))) (hfar : ∀ i : Int, (∀ j : Nat, j < F + 4 → i ≠ nla F t + (j : Int)) → cellAt l' i = cellAt l i) :
  RwS F n kk (putR F key ref 0 m sp R) l' := by
 have htm := atR_mem ht
 have hk := h.k100
 have htn := h.num _ htm
 have htn1 : 1 ≤ t := htn.1
 have htn2 : t ≤ 100 := by have : t ≤ kk := htn.2; omega
 have hlen := (h.page htm).choose_spec.len
 have hmem : ∀ x ∈ putR F key ref 0 m sp R, (x ∈ R ∧ x.1 ≠ t) ∨ x = (t, npg P key ref) := fun x hx => by
  rcases putR_mem ht h.nod x hx with h1 | ⟨h1, -⟩ | ⟨-, h1⟩
  ·exact .inl h1
  ·exact absurd h1 hF
  ·exact .inr h1
 have hok : OkR F key ref m sp R := fun n' P' h' => by
  rw [ht] at h'; cases h'
  exact ⟨hh, fun h => absurd h hF⟩
 refine ⟨hl, h.room, hN, h.row.put (kl_nil _) hok, ?_, by rw [putR_fst0]; exact h.fst, fun x hx => ?_, fun x hx => ?_, fun x hx => ?_, ?_, hk, fun x hx => ?_, ?_, ?_, fun i hi => ?_⟩
 ·refine putR_nodup h.nod fun h0 => ?_
  obtain ⟨x, hx, e⟩ := List.mem_map.1 h0
  have := (h.num x hx).1
  omega
 ·rcases hmem x hx with ⟨h1, h2⟩ | rfl
  ·intro r hr
   have hx2 := h.num x h1
   have hx3 := (h.page h1).choose_spec.len
   rw [hfar _ (far_node h4 h6 htn1 htn2 hx2.1 (by omega) h2 (by omega)).1]
   exact h.hold x h1 r hr
  ·exact hX
 ·rcases hmem x hx with ⟨h1, h2⟩ | rfl
  ·obtain ⟨wd', a, b⟩ := h.lat x h1
   have hx2 := h.num x h1
   exact ⟨wd', a, by rw [hfar _ (far_node (r := 0) h4 h6 htn1 htn2 hx2.1 (by omega) h2 (by omega)).2]; exact b⟩
  ·exact ⟨wd, hw, hlt⟩
 ·rcases hmem x hx with ⟨h1, h2⟩ | rfl
  ·exact h.num x h1
  ·exact htn
 ·rw [putR_len ht, if_neg hF]; exact h.cnt
 ·rcases hmem x hx with ⟨h1, h2⟩ | rfl
  ·exact h.fits x h1
  ·exact fits_npg (h.fits _ htm) (by have h7 : P.xs.length ≤ F := hlen; omega) hrf
 ·rw [hfar 0 (far_ctr h4 h6 htn1 htn2 (.inl (by omega)))]; exact h.c0
 ·rw [hfar 4 (far_ctr h4 h6 htn1 htn2 (.inl (by omega)))]; exact h.c4
 ·rw [hfar i (far_ctr h4 h6 htn1 htn2 (by omega))]; exact h.far i hi
theorem RwS.upd1 (h : RwS F n kk R l) (h4 : 4 ≤ F) (h6 : F ≤ 6) {t : Nat} {P : Pg} (ht : atR key R = some (t, P)) (hh : has key P.xs = false) (hF : F < (npg P key ref).xs.length) (hv : Hv F (npg P key ref) m sp) (hrf : ref < 18446744073709551616) {id : Nat} (hid : id = kk + 1) (h100 : kk < 100) {l' : List Cel} (hl : l'.length = n) (hN : Nats l')
  (hX : Holds (nad F t) l' (lpg (npg P key ref) m sp id)) (hY : Holds (nad F id) l' (rpg (npg P key ref) m)) {wd wd2 : Nat} (hw : wd % 4 = 0) (hlt : cellAt l' (nla F t) = ((wd : Int), (⟨#[]⟩ : ByteArray), (0 : Int))) (hw2 : wd2 % 4 = 0) (hlt2 : cellAt l' (nla F id) = ((wd2 : Int), (⟨#[]⟩ : ByteArray), (0 : Int)))
  (hc4 : cellAt l' 4 = ((id : Int), (⟨#[]⟩ : ByteArray), (0 : Int))) (hfar : ∀ i : Int, i ≠ 4 → (∀ j : Nat, j < F + 4 → i ≠ nla F t + (j : Int) ∧ i ≠ nla F id + (j : Int)) → cellAt l' i = cellAt l i) :
  RwS F n id (putR F key ref id m sp R) l' := by
 have htm := atR_mem ht
 have htn := h.num _ htm
 have htn1 : 1 ≤ t := htn.1
 have htk : t ≤ kk := htn.2
 have htn2 : t ≤ 100 := by omega
 have hi1 : 1 ≤ id := by omega
 have hi2 : id ≤ 100 := by omega
 have hlen := (h.page htm).choose_spec.len
 have hmem : ∀ x ∈ putR F key ref id m sp R, (x ∈ R ∧ x.1 ≠ t) ∨ x = (t, lpg (npg P key ref) m sp id) ∨ x = (id, rpg (npg P key ref) m) := fun x hx => by
  rcases putR_mem ht h.nod x hx with h1 | ⟨-, h1⟩ | ⟨h1, -⟩
  ·exact .inl h1
  ·exact .inr h1
  ·exact absurd hF h1
 have hok : OkR F key ref m sp R := fun n' P' h' => by
  rw [ht] at h'; cases h'
  exact ⟨hh, fun _ => hv⟩
 have hfx : Fits (npg P key ref) := fits_npg (h.fits _ htm) (by have h7 : P.xs.length ≤ F := hlen; omega) hrf
 refine ⟨hl, h.room, hN, h.row.put (kl_nil _) hok, ?_, by rw [putR_fst0]; exact h.fst, fun x hx => ?_, fun x hx => ?_, fun x hx => ?_, ?_, hi2, fun x hx => ?_, ?_, hc4, fun i hi => ?_⟩
 ·refine putR_nodup h.nod fun h0 => ?_
  obtain ⟨x, hx, e⟩ := List.mem_map.1 h0
  have := (h.num x hx).2
  omega
 ·rcases hmem x hx with ⟨h1, h2⟩ | rfl | rfl
  ·intro r hr
   have hx2 := h.num x h1
   have hx3 := (h.page h1).choose_spec.len
   have a := (far_node h4 h6 htn1 htn2 hx2.1 (by omega) h2 (r := r) (by omega)).1
   have b := (far_node h4 h6 hi1 hi2 hx2.1 (by omega) (by omega) (r := r) (by omega)).1
   have hb := nla_rng h4 h6 hx2.1 (by omega : x.1 ≤ 100)
   have he := nad_eq (F := F) hx2.1 (by omega : x.1 ≤ 100) (r := r) (by omega)
   rw [hfar _ (by omega) (fun j hj => ⟨a j hj, b j hj⟩)]
   exact h.hold x h1 r hr
  ·exact hX
  ·exact hY
 ·rcases hmem x hx with ⟨h1, h2⟩ | rfl | rfl
  ·obtain ⟨wd', u, v⟩ := h.lat x h1
   have hx2 := h.num x h1
   have a := (far_node (r := 0) h4 h6 htn1 htn2 hx2.1 (by omega) h2 (by omega)).2
   have b := (far_node (r := 0) h4 h6 hi1 hi2 hx2.1 (by omega) (by omega) (by omega)).2
   have hb := nla_rng h4 h6 hx2.1 (by omega : x.1 ≤ 100)
   exact ⟨wd', u, by rw [hfar _ (by omega) (fun j hj => ⟨a j hj, b j hj⟩)]; exact v⟩
  ·exact ⟨wd, hw, hlt⟩
  ·exact ⟨wd2, hw2, hlt2⟩
 ·rcases hmem x hx with ⟨h1, h2⟩ | rfl | rfl
  ·have := h.num x h1
   exact ⟨this.1, by omega⟩
  ·exact ⟨htn1, by show t ≤ id; omega⟩
  ·exact ⟨hi1, Nat.le_refl _⟩
 ·rw [putR_len ht, if_pos hF]; have := h.cnt; omega
 ·rcases hmem x hx with ⟨h1, h2⟩ | rfl | rfl
  ·exact h.fits x h1
  ·exact fits_lpg hfx (by omega)
  ·exact fits_rpg hfx
 ·rw [hfar 0 (by omega) (fun j hj => ⟨far_ctr h4 h6 htn1 htn2 (.inl (by omega)) j hj, far_ctr h4 h6 hi1 hi2 (.inl (by omega)) j hj⟩)]; exact h.c0
 ·rw [hfar i (by omega) (fun j hj => ⟨far_ctr h4 h6 htn1 htn2 (by omega) j hj, far_ctr h4 h6 hi1 hi2 (by omega) j hj⟩)]; exact h.far i hi
theorem RwS.rel (h : RwS F n kk R l) (h4 : 4 ≤ F) (h6 : F ≤ 6) {t : Nat} {P : Pg} (htm : (t, P) ∈ R) {l' : List Cel} (hl : l'.length = n) (hN : Nats l') {wd : Nat} (hw : wd % 4 = 0) (hlt : cellAt l' (nla F t) = ((wd : Int), (⟨#[]⟩ : ByteArray), (0 : Int))) (hfar : ∀ i : Int, i ≠ nla F t → cellAt l' i = cellAt l i) :
  RwS F n kk R l' := by
 have hk := h.k100
 have htn := h.num _ htm
 have htn1 : 1 ≤ t := htn.1
 have htn2 : t ≤ 100 := by have : t ≤ kk := htn.2; omega
 have hb := nla_rng h4 h6 htn1 htn2
 refine ⟨hl, h.room, hN, h.row, h.nod, h.fst, fun x hx r hr => ?_, fun x hx => ?_, h.num, h.cnt, hk, h.fits, ?_, ?_, fun i hi => ?_⟩
 ·have hx2 := h.num x hx
  have hx3 := (h.page hx).choose_spec.len
  have he := nad_eq (F := F) hx2.1 (by omega : x.1 ≤ 100) (r := r) (by omega)
  refine (hfar _ ?_).trans (h.hold x hx r hr)
  by_cases e : x.1 = t
  ·rw [e] at he ⊢; omega
  ·rcases nla_apart h4 h6 htn1 htn2 hx2.1 (by omega) (Ne.symm e) with h | h <;> omega
 ·by_cases e : x.1 = t
  ·exact ⟨wd, hw, by rw [e]; exact hlt⟩
  ·obtain ⟨wd', a, b⟩ := h.lat x hx
   have hx2 := h.num x hx
   refine ⟨wd', a, (hfar _ ?_).trans b⟩
   rcases nla_apart h4 h6 htn1 htn2 hx2.1 (by omega) (Ne.symm e) with h | h <;> omega
 ·rw [hfar 0 (by omega)]; exact h.c0
 ·rw [hfar 4 (by omega)]; exact h.c4
 ·rw [hfar i (by omega)]; exact h.far i hi
end
end
end Go.Proofs.YtjnodgebpklaoaaGreat
