/-
  Trees whose nodes have whatever numbers, and whose latches count versions: levels, the way of a Find. Condition: a fanout of four to six; no program is spoken of.
-/
import Derived.Test.YtjnodgebpklaoaaGreatLkTree
namespace Go.Proofs.YtjnodgebpklaoaaGreat
section
open Go.RowKit Go.Deep Plain
set_option linter.unusedVariables false

def smG (mm : Nat → Nat) : Nat → Nat
  | 0 => 0
  | L + 1 => smG mm L + mm L
structure LvG (F : Nat) (l : List Cel) (kk : Nat) (nn : Nat → Nat) (m L : Nat) (lo : Nat → ByteArray) (pg : Nat → Pg) : Prop where
  pos : 1 ≤ m
  top : m ≤ 100
  num : ∀ i, i < m → 1 ≤ nn i ∧ nn i ≤ kk
  inj : ∀ i j, i < m → j < m → nn i = nn j → i = j
  nd : ∀ i, i < m → Nd F l (nn i) (pg i)
  lv : ∀ i, i < m → (pg i).lv = L
  low0 : lo 0 = ⟨#[]⟩
  next : ∀ i, i + 1 < m → (pg i).la = false ∧ (pg i).rt = nn (i + 1) ∧ (pg i).hi = lo (i + 1)
  asc : ∀ i, i + 1 < m → kl (lo i) (lo (i + 1)) = true
  last : ∀ i, i + 1 = m → (pg i).la = true ∧ (pg i).rt = 0
section
variable {F : Nat} {l : List Cel} {kk : Nat} {nn : Nat → Nat} {m L : Nat} {lo : Nat → ByteArray} {pg : Nat → Pg}
theorem LvG.mono (h : LvG F l kk nn m L lo pg) {i : Nat} : ∀ {j : Nat}, i < j → j < m → kl (lo i) (lo j) = true
  | 0, hij, _ => by omega
  | j + 1, hij, hj => by
    by_cases e : i = j
    · subst e; exact h.asc i hj
    · exact kl_trans (h.mono (j := j) (by omega) (by omega)) (h.asc j hj)
theorem LvG.after (h : LvG F l kk nn m L lo pg) {i j : Nat} {key : ByteArray} (hi : i < m) (hc : cov (pg i) key = true) (hij : i < j) (hj : j < m) : kl key (lo j) = true := by
  have hn := h.next i (by omega)
  unfold cov at hc
  rw [hn.1, hn.2.2, Bool.false_or] at hc
  by_cases e : i + 1 = j
  · subst e; exact hc
  · exact kl_trans hc (h.mono (by omega) hj)
theorem LvG.unique (h : LvG F l kk nn m L lo pg) {i j : Nat} {key : ByteArray} (hi : i < m) (hj : j < m) (hli : kl key (lo i) = false) (hlj : kl key (lo j) = false) (hci : cov (pg i) key = true) (hcj : cov (pg j) key = true) : i = j := by
  rcases Nat.lt_trichotomy i j with h1 | h1 | h1
  · rw [h.after hi hci h1 hj] at hlj; cases hlj
  · exact h1
  · rw [h.after hj hcj h1 hi] at hli; cases hli
end
structure TrG (F : Nat) (l : List Cel) (H kk : Nat) (nd : Nat → Nat → Nat) (mm : Nat → Nat) (lo : Nat → Nat → ByteArray) (pg : Nat → Nat → Pg) : Prop where
  H1 : 1 ≤ H
  k100 : kk ≤ 100
  lev : ∀ L, L < H → LvG F l kk (nd L) (mm L) L (lo L) (pg L)
  up : ∀ L, L + 1 < H → ∀ i, i < mm (L + 1) → (∃ r, (pg (L + 1) i).xs[0]? = some (lo (L + 1) i, r)) ∧ ∀ x ∈ (pg (L + 1) i).xs, ∃ j, j < mm L ∧ x = (lo L j, nd L j)
  sum : smG mm H ≤ kk
  one : 1 ≤ mm (H - 1)
  root : cellAt l 0 = ((nd (H - 1) 0 : Int), ⟨#[]⟩, 0)
  tot : cellAt l 4 = ((kk : Int), ⟨#[]⟩, 0)
section
variable {F H kk : Nat} {l : List Cel} {nd : Nat → Nat → Nat} {mm : Nat → Nat} {lo : Nat → Nat → ByteArray} {pg : Nat → Nat → Pg}
theorem sm_mono {mm : Nat → Nat} {a : Nat} : ∀ {L : Nat}, a ≤ L → smG mm a ≤ smG mm L
  | 0, h => by obtain rfl : a = 0 := by omega
               exact Nat.le_refl _
  | L + 1, h => by
    by_cases e : a = L + 1
    · subst e; exact Nat.le_refl _
    · have := sm_mono (mm := mm) (a := a) (L := L) (by omega)
      show smG mm a ≤ smG mm L + mm L
      omega
theorem TrG.height (T : TrG F l H kk nd mm lo pg) : ∀ {L : Nat}, L ≤ H → L ≤ smG mm L
  | 0, _ => Nat.zero_le _
  | L + 1, h => by
    have h1 := T.height (L := L) (by omega)
    have h2 := (T.lev L (by omega)).pos
    show L + 1 ≤ smG mm L + mm L
    omega
theorem TrG.H100 (T : TrG F l H kk nd mm lo pg) : H ≤ 100 := by
  have h1 := T.height (L := H) (Nat.le_refl _)
  have h2 := T.sum
  have h3 := T.k100
  omega
theorem TrG.all (T : TrG F l H kk nd mm lo pg) {L i : Nat} (hL : L < H) (hi : i < mm L) : 1 ≤ nd L i ∧ nd L i ≤ kk ∧ kk ≤ 100 :=
  ⟨((T.lev L hL).num i hi).1, ((T.lev L hL).num i hi).2, T.k100⟩
theorem TrG.find (T : TrG F l H kk nd mm lo pg) (key : ByteArray) (lvl : Nat) (hlvl : lvl < H) : ∀ (n L i : Nat), lvl ≤ L → L < H → i < mm L → kl key (lo L i) = false → (mm L - i) + (smG mm L - smG mm lvl) ≤ n →
    ∃ d j, j < mm lvl ∧ WPath F l (nxF key lvl) (nd L i) (pg L i) ⟨#[]⟩ d (nd lvl j) ⟨#[]⟩ ∧ d ≤ n * (F + 5) ∧ kl key (lo lvl j) = false ∧ cov (pg lvl j) key = true
  | 0, L, i, h1, h2, h3, h4, h5 => by omega
  | n + 1, L, i, h1, h2, h3, h4, h5 => by
    have V := T.lev L h2
    have hnd := V.nd i h3
    have hlv := V.lv i h3
    have hlen := hnd.len
    have hmul : (n + 1) * (F + 5) = n * (F + 5) + (F + 5) := Nat.succ_mul _ _
    cases hc : cov (pg L i) key
    · have hnl : i + 1 < mm L := by
        rcases Nat.lt_or_ge (i + 1) (mm L) with h | h
        · exact h
        · have := (V.last i (by omega)).1
          unfold cov at hc; rw [this] at hc; cases hc
      obtain ⟨hla, hrt, hhi⟩ := V.next i hnl
      have hk2 : kl key (lo L (i + 1)) = false := by
        unfold cov at hc; rw [hla, hhi, Bool.false_or] at hc; exact hc
      obtain ⟨d, j, hj, hp, hd, hjl, hjc⟩ := T.find key lvl hlvl n L (i + 1) h1 h2 hnl hk2 (by omega)
      refine ⟨(pg L i).xs.length + 5 + d, j, hj, .go hnd ?_ hp, by omega, hjl, hjc⟩
      have hc' : ((pg L i).la || ltB key.toList (pg L i).hi.toList) = false := hc
      unfold nxF
      rw [if_neg (by omega), if_pos hc', hrt]
    · by_cases e : lvl = L
      · subst e
        refine ⟨(pg lvl i).xs.length + 5, i, h3, .here hnd ?_, by omega, h4, hc⟩
        have hc' : ¬ ((pg lvl i).la || ltB key.toList (pg lvl i).hi.toList) = false := by
          intro h; have : cov (pg lvl i) key = false := h; rw [this] at hc; cases hc
        unfold nxF
        rw [if_neg (by omega), if_neg hc', if_neg (by omega)]
      · obtain ⟨L', rfl⟩ : ∃ L', L = L' + 1 := ⟨L - 1, by omega⟩
        obtain ⟨⟨r0, h0⟩, hx⟩ := T.up L' h2 i h3
        obtain ⟨q, x, hxq, hnear, hxk, -⟩ := child_le hnd.asc h0 h4
        obtain ⟨j, hj, rfl⟩ := hx x (List.mem_of_getElem? hxq)
        have hord : smG mm (L' + 1) = smG mm L' + mm L' := rfl
        have hb := sm_mono (mm := mm) (a := lvl) (L := L') (by omega)
        obtain ⟨d, j2, hj2, hp, hd, hjl, hjc⟩ := T.find key lvl hlvl n L' j (by omega) (by omega) hj hxk (by omega)
        refine ⟨(pg (L' + 1) i).xs.length + 5 + d, j2, hj2, .go hnd ?_ hp, by omega, hjl, hjc⟩
        have hc' : ¬ ((pg (L' + 1) i).la || ltB key.toList (pg (L' + 1) i).hi.toList) = false := by
          intro h; have : cov (pg (L' + 1) i) key = false := h; rw [this] at hc; cases hc
        unfold nxF
        rw [if_neg (by omega), if_neg hc', if_pos (by omega), hnear]
theorem TrG.find_root (T : TrG F l H kk nd mm lo pg) (hF : F ≤ 6) (key : ByteArray) (lvl : Nat) (hlvl : lvl < H) :
    ∃ d j, j < mm lvl ∧ WPath F l (nxF key lvl) (nd (H - 1) 0) (pg (H - 1) 0) ⟨#[]⟩ d (nd lvl j) ⟨#[]⟩ ∧ d ≤ 1111 ∧ kl key (lo lvl j) = false ∧ cov (pg lvl j) key = true := by
  have h1 := T.H1
  have V := T.lev (H - 1) (by omega)
  have ho := T.one
  have hs := T.sum
  have hk := T.k100
  have he : smG mm H = smG mm (H - 1) + mm (H - 1) := by
    obtain ⟨h, rfl⟩ : ∃ h, H = h + 1 := ⟨H - 1, by omega⟩
    rfl
  obtain ⟨d, j, hj, hp, hd, hjl, hjc⟩ := T.find key lvl hlvl 101 (H - 1) 0 (by omega) (by omega) (by omega) (by rw [V.low0]; exact kl_nil _) (by omega)
  exact ⟨d, j, hj, hp, by have : 101 * (F + 5) ≤ 101 * 11 := Nat.mul_le_mul_left _ (by omega)
                          omega, hjl, hjc⟩
theorem TrG.first (T : TrG F l H kk nd mm lo pg) {L : Nat} (hL : L + 1 < H) : (pg (L + 1) 0).xs[0]? = some (⟨#[]⟩, nd L 0) := by
  have V := T.lev (L + 1) hL
  have V2 := T.lev L (by omega)
  obtain ⟨⟨r, h0⟩, hx⟩ := T.up L hL 0 V.pos
  obtain ⟨j, hj, he⟩ := hx _ (List.mem_of_getElem? h0)
  rw [V.low0] at he h0
  have h1 : lo L j = ⟨#[]⟩ := by injection he with a; exact a.symm
  have hj0 : j = 0 := by
    rcases Nat.eq_zero_or_pos j with e | e
    · exact e
    · have := V2.mono e hj
      rw [h1] at this
      rw [kl_nil] at this; cases this
  subst hj0
  rw [h0, he, h1]
end
end
end Go.Proofs.YtjnodgebpklaoaaGreat
