/-
  Locks on a tree of which only the lock bits of latches change: how many steps they are from their end. No program runs here. Condition: none.
-/
import Derived.Test.YtkpbbnpfdighjaaGreatLkRun
import Derived.Test.YtkpbbnpfdighjaaGreatLkTree
namespace Go.Proofs.YtkpbbnpfdighjaaGreat
open Go.RowKit Go.Deep Plain
set_option linter.unusedVariables false

/-- A cell of a latch that is locked or not. -/
def lbit (h : Bool) : Cel := (((if h then 1 else 0 : Nat) : Int), (⟨#[]⟩ : ByteArray), (0 : Int))
/-- A memory that differs from l0 in latches only; h says which ones are locked. -/
structure Lks (F : Nat) (l0 l : List Cel) (h : Nat → Bool) : Prop where
  len : l.length = l0.length
  lat : ∀ n, 1 ≤ n → n ≤ 100 → cellAt l (nla F n) = lbit (h n)
  rest : ∀ i : Int, (∀ n, 1 ≤ n → n ≤ 100 → i ≠ nla F n) → cellAt l i = cellAt l0 i
  nats : Nats l
theorem lbit_nat (h : Bool) : NatCell (lbit h) := ⟨if h then 1 else 0, 0, _, rfl, by split <;> omega, by omega⟩
theorem nla_lo {F n : Nat} (h4 : 4 ≤ F) (h6 : F ≤ 6) (h1 : 1 ≤ n) (h2 : n ≤ 100) : 10 ≤ nla F n ∧ nla F n + (F : Int) + 4 ≤ 10 + 100 * (F : Int) + 400 := by
  rcases nla_lin h4 h6 h1 h2 with ⟨e, a⟩ | ⟨e, a⟩ | ⟨e, a⟩ <;> omega
theorem nla_ne {F n m : Nat} (h4 : 4 ≤ F) (h6 : F ≤ 6) (h1 : 1 ≤ n) (h2 : n ≤ 100) (h3 : 1 ≤ m) (h5 : m ≤ 100) (h : n ≠ m) : nla F n ≠ nla F m := by
  rcases Nat.lt_or_ge n m with e | e
  · have := nla_far h4 h6 h1 e h5; omega
  · have := nla_far h4 h6 h3 (by omega : m < n) h2; omega
theorem nad_ne {F n m r : Nat} (h4 : 4 ≤ F) (h6 : F ≤ 6) (h3 : 1 ≤ m) (h5 : m ≤ 100) (hr : r < F + 3) : nad F n r ≠ nla F m := by
  by_cases h1 : 1 ≤ n ∧ n ≤ 100
  · intro e
    rw [nad_eq h1.1 h1.2 hr] at e
    rcases Nat.lt_trichotomy m n with h | h | h
    · have := nla_far h4 h6 h3 h h1.2; omega
    · subst h; omega
    · have := nla_far h4 h6 h1.1 h h5; omega
  · have hm := (nla_lo h4 h6 h3 h5).1
    have hz : ∀ p : Int, nodeAt 100 (F : Int) 10 (n : Int) p = -1 := fun p => by unfold nodeAt; rw [if_neg (by omega)]
    have : nad F n r = -1 := by
      unfold nad adr; split
      · exact hz _
      · split
        · exact hz _
        · split
          · exact hz _
          · unfold slotAt; split
            · exact hz _
            · rfl
    omega
section
variable {F : Nat} {l0 l : List Cel} {h : Nat → Bool} {n : Nat} {P : Pg}
theorem Lks.page (k : Lks F l0 l h) (h4 : 4 ≤ F) (h6 : F ≤ 6) (hF : P.xs.length ≤ F) (hP : Holds (nad F n) l0 P) : Holds (nad F n) l P :=
  fun r hr => (k.rest _ (fun m h1 h2 => nad_ne h4 h6 h1 h2 (by omega))).trans (hP r hr)
theorem Lks.word (k : Lks F l0 l h) (n : Nat) : ∃ wd : Nat, wd ≤ 1 ∧ (cellAt l (nla F n)).1 = (wd : Int) := by
  rcases nla_in1 F n with e | e
  · rw [e, cellAt_out _ _ (.inl (by omega))]; exact ⟨0, by omega, rfl⟩
  · rw [k.lat n e.1 e.2]; exact ⟨if h n then 1 else 0, by split <;> omega, rfl⟩
theorem Lks.put (k : Lks F l0 l h) (h4 : 4 ≤ F) (h6 : F ≤ 6) (hb : 10 + 100 * (F : Int) + 400 ≤ (l0.length : Int)) (h1 : 1 ≤ n) (h2 : n ≤ 100) (v : Bool) : Lks F l0 (putAt l (nla F n) (lbit v)) (upd h n v) where
  len := by rw [putAt_length]; exact k.len
  lat := fun m a b => by
    have hn := nla_lo h4 h6 h1 h2
    by_cases e : m = n
    · subst e; rw [upd_at]; exact cellAt_same ⟨by omega, by rw [k.len]; omega⟩ _
    · rw [upd_ne _ _ e, cellAt_other (nla_ne h4 h6 h1 h2 a b (Ne.symm e))]; exact k.lat m a b
  rest := fun i hi => by rw [cellAt_other (fun e => hi n h1 h2 e.symm)]; exact k.rest i hi
  nats := k.nats.put _ (lbit_nat v)
theorem Lks.start (h4 : 4 ≤ F) (hz : ∀ n, 1 ≤ n → n ≤ 100 → cellAt l0 (nla F n) = cel0) (hn : Nats l0) : Lks F l0 l0 (fun _ => false) :=
  ⟨rfl, fun n a b => hz n a b, fun _ _ => rfl, hn⟩
theorem cells_ext {l1 l2 : List Cel} (hl : l1.length = l2.length) (h : ∀ i : Int, cellAt l1 i = cellAt l2 i) : l1 = l2 := by
  apply List.ext_getElem hl
  intro i h1 h2
  have := h (i : Int)
  rwa [cellAt_in _ _ h1, cellAt_in _ _ h2] at this
theorem Lks.eq (k : Lks F l0 l h) (hz : ∀ n, 1 ≤ n → n ≤ 100 → cellAt l0 (nla F n) = cel0) (hh : ∀ n, 1 ≤ n → n ≤ 100 → h n = false) : l = l0 := by
  apply cells_ext k.len
  intro i
  by_cases e : ∃ n, 1 ≤ n ∧ n ≤ 100 ∧ i = nla F n
  · obtain ⟨n, a, b, rfl⟩ := e
    rw [k.lat n a b, hz n a b, hh n a b]; rfl
  · exact k.rest i (fun n a b c => e ⟨n, a, b, c⟩)
end

/-- A Read after j steps of a page that doesn't change. -/
def Rj (P : Pg) (j : Nat) (y : Rst) : Prop := (j = 0 ∧ y = rst0) ∨ ∃ k wd, j = k + 1 ∧ k ≤ P.xs.length + 3 ∧ wd ≤ 1 ∧ y = ⟨if k = P.xs.length + 3 then 2 else 1, wd, got P k⟩
theorem Rj.ok {F : Nat} {P : Pg} {j : Nat} {y : Rst} (hF : P.xs.length ≤ F) (h : Rj P j y) : Okr F y ∧ y.ph < 3 := by
  rcases h with ⟨rfl, rfl⟩ | ⟨k, wd, rfl, hk, hw, rfl⟩
  · exact ⟨okr0 F, by decide⟩
  · refine ⟨⟨?_, ?_, got_oks hF hk, fun e => ?_⟩, ?_⟩
    · show (if k = P.xs.length + 3 then 2 else 1) ≤ 3
      split <;> omega
    · show wd < 18446744073709551616
      omega
    · have e' : (if k = P.xs.length + 3 then 2 else 1) = 1 := e
      by_cases h0 : k = 0
      · exact .inl (by show k = 0; exact h0)
      · refine .inr ?_
        show k < if k = 0 then 0 else P.xs.length + 3
        rw [if_neg h0]
        split at e'
        · omega
        · omega
    · show (if k = P.xs.length + 3 then 2 else 1) < 3
      split <;> omega
theorem Rj.step {F n : Nat} {l : List Cel} {P : Pg} {j : Nat} {y : Rst} (hn : Nats l) (hP : Holds (nad F n) l P) (hw : Wf P) (hF : P.xs.length ≤ F) (hl : ∃ wd : Nat, wd ≤ 1 ∧ (cellAt l (nla F n)).1 = (wd : Int)) (h : Rj P j y) :
    (Rj P (j + 1) (rgo F n l y) ∧ (rgo F n l y).ph ≠ 3 ∧ j + 1 < P.xs.length + 5) ∨ (j + 1 = P.xs.length + 5 ∧ ∃ wd, wd ≤ 1 ∧ rgo F n l y = ⟨3, wd, got P (P.xs.length + 3)⟩) := by
  obtain ⟨wd, hwd, hlw⟩ := hl
  have ew : (cellAt l (nla F n)).1.toNat = wd := by rw [hlw]; rfl
  rcases h with ⟨rfl, rfl⟩ | ⟨k, w0, rfl, hk, hw0, rfl⟩
  · have e : rgo F n l rst0 = ⟨1, wd, got P 0⟩ := by
      rw [got_zero]
      unfold rgo rcell raddr
      rw [if_pos (show rst0.ph < 3 by decide), if_neg (show ¬ rst0.ph = 1 by decide)]
      unfold rnext
      rw [if_pos (show rst0.ph = 0 from rfl), ew, if_neg (by omega)]
    rw [e]
    exact .inl ⟨.inr ⟨0, wd, rfl, by omega, hwd, by rw [if_neg (by omega)]⟩, by show (1 : Nat) ≠ 3; omega, by omega⟩
  · by_cases hk3 : k = P.xs.length + 3
    · refine .inr ⟨by omega, w0, hw0, ?_⟩
      subst hk3
      rw [if_pos rfl]
      unfold rgo rcell raddr
      simp only
      rw [if_pos (by omega), if_neg (by omega), ew]
      unfold rnext
      simp only
      rw [if_neg (by omega), if_neg (by omega), if_pos (by omega)]
    · rw [if_neg hk3]
      have e : rgo F n l ⟨1, w0, got P k⟩ = ⟨if k + 1 = P.xs.length + 3 then 2 else 1, w0, got P (k + 1)⟩ := by
        unfold rgo rcell raddr
        simp only
        rw [if_pos (by omega), if_pos trivial]
        have hrd : (got P k).rd = k := rfl
        rw [hrd]
        have hc := nat_toNat (hn (nad F n k))
        have hpc := hP k (by omega)
        have ht : tk F (got P k) (cellAt l (nad F n k)).1.toNat (cellAt l (nad F n k)).2.1 (cellAt l (nad F n k)).2.2.toNat = got P (k + 1) := by
          apply tk_got hw hF (by omega)
          rw [← hpc]; exact hc.1
        unfold rnext
        simp only
        rw [if_neg (by omega), if_pos trivial, ht]
        have hgl := got_last (P := P) (r := k) (by omega)
        have h2 : ((got P (k + 1)).rd = (got P (k + 1)).en) ↔ (k + 1 = P.xs.length + 3) := by
          have := hgl; rw [Bool.eq_iff_iff] at this; simpa using this
        by_cases hz : k + 1 = P.xs.length + 3
        · rw [if_pos (h2.2 hz), if_pos hz]
        · rw [if_neg (fun e => hz (h2.1 e)), if_neg hz]
      rw [e]
      refine .inl ⟨.inr ⟨k + 1, w0, rfl, by omega, hw0, rfl⟩, ?_, by omega⟩
      show (if k + 1 = P.xs.length + 3 then 2 else 1) ≠ 3
      split <;> omega

/-- A Find on its way in l0, so many steps from its end, which is at node t (0: nowhere). -/
inductive FW (F : Nat) (key : ByteArray) (lvl : Nat) (l0 : List Cel) : Nat → Nat → Fs → Prop
  | root {n : Nat} {P : Pg} {D t : Nat} {lo lo2 : ByteArray} {M : Int} {K : ByteArray} (hc : cellAt l0 0 = ((n : Int), K, M)) (p : WPath F l0 (nxF key lvl) n P lo D t lo2) : FW F key lvl l0 (D + 1) t .root
  | rd {n : Nat} {P : Pg} {lo lo2 : ByteArray} {D t j : Nat} {y : Rst} (p : WPath F l0 (nxF key lvl) n P lo D t lo2) (hj : j < P.xs.length + 5) (hy : Rj P j y) : FW F key lvl l0 (D - j) t (.rd n y)
  | arr {n : Nat} {y : Rst} : FW F key lvl l0 0 n (.arr n y)
  | no : FW F key lvl l0 0 0 .no
theorem FW.step {F : Nat} {key : ByteArray} {lvl : Nat} {l0 l : List Cel} {h : Nat → Bool} (h4 : 4 ≤ F) (h6 : F ≤ 6) (k : Lks F l0 l h) {d t : Nat} {s : Fs} (f : FW F key lvl l0 (d + 1) t s) :
    Fok F key lvl l s ∧ FW F key lvl l0 d t (fgo F key lvl l s) ∧ (fgo F key lvl l s).fin = (d == 0) := by
  generalize hD : d + 1 = D at f
  cases f with
  | arr => omega
  | no => omega
  | root hc p =>
    rename_i n P D lo lo2 M K
    obtain rfl : d = D := by omega
    have hl := p.len
    have hr : cellAt l 0 = cellAt l0 0 := k.rest 0 (fun n a b => by have := (nla_lo h4 h6 a b).1; omega)
    have e1 : (cellAt l 0).1.toNat = n := by rw [hr, hc]; rfl
    have e2 : fgo F key lvl l .root = .rd n rst0 := by show Fs.rd _ _ = _; rw [e1]
    refine ⟨by show (cellAt l 0).1.toNat ≠ 0; rw [e1]; exact p.nd.ne, ?_, ?_⟩
    · rw [e2]
      exact .rd (j := 0) p (by omega) (.inl ⟨rfl, rfl⟩)
    · rw [e2]; show false = _; simp; omega
  | rd p hj hy =>
    rename_i n P lo lo2 D j y
    have hl := p.len
    have nd := p.nd
    have hP := k.page h4 h6 nd.len nd.holds
    obtain ⟨ho, hp⟩ := hy.ok nd.len
    have e0 : fgo F key lvl l (.rd n y) = fdo key lvl n (rgo F n l y) := rfl
    rw [e0]
    show (Okr F y ∧ y.ph < 3 ∧ ((rgo F n l y).ph = 3 → Asc (rgo F n l y).s.xs ∧ ((nxF key lvl (rgo F n l y).s.pg).1 = 1 → (nxF key lvl (rgo F n l y).s.pg).2.1 ≠ 0))) ∧ _
    rcases hy.step k.nats hP nd.wf nd.len (k.word n) with ⟨h1, h2, h3⟩ | ⟨h1, wd, hwd, h2⟩
    · have e1 : fdo key lvl n (rgo F n l y) = .rd n (rgo F n l y) := if_neg h2
      rw [e1]
      refine ⟨⟨ho, hp, fun e => absurd e h2⟩, ?_, ?_⟩
      · have := FW.rd (F := F) (key := key) (lvl := lvl) p h3 h1
        rwa [show D - (j + 1) = d by omega] at this
      · show false = _; simp; omega
    · have hpg : (got P (P.xs.length + 3)).pg = P := got_end P
      have e1 : fdo key lvl n (rgo F n l y) = (if (nxF key lvl P).1 = 1 then .rd (nxF key lvl P).2.1 rst0 else if (nxF key lvl P).1 = 2 then .arr n (rgo F n l y) else .no) := by
        unfold fdo
        rw [h2]; show (if (3 : Nat) = 3 then _ else _) = _
        rw [if_pos rfl]
        show (if (nxF key lvl (got P (P.xs.length + 3)).pg).1 = 1 then _ else _) = _
        rw [hpg]
      have e2 : (rgo F n l y).s.pg = P := by rw [h2]; exact hpg
      have e3 : (rgo F n l y).s.xs = P.xs := by
        have : (rgo F n l y).s.pg.xs = P.xs := by rw [e2]
        exact this
      rw [e1, e2, e3]
      rcases p.inv with ⟨hD0, rfl, rfl, e⟩ | ⟨hD0, rfl, rfl, e⟩ | ⟨P2, lo3, m, d2, hD0, e, p2⟩
      · obtain rfl : d = 0 := by omega
        rw [e]
        exact ⟨⟨ho, hp, fun _ => ⟨nd.asc, fun e => by omega⟩⟩, by rw [if_neg (by omega), if_pos rfl]; exact .arr, by rw [if_neg (by omega), if_pos rfl]; rfl⟩
      · obtain rfl : d = 0 := by omega
        rw [e]
        exact ⟨⟨ho, hp, fun _ => ⟨nd.asc, fun e => by omega⟩⟩, by rw [if_neg (by omega), if_neg (by omega)]; exact .no, by rw [if_neg (by omega), if_neg (by omega)]; rfl⟩
      · have hl2 := p2.len
        obtain rfl : d = d2 := by omega
        have e4 : (nxF key lvl P).1 = 1 := by rw [e]
        have e5 : (nxF key lvl P).2.1 = m := by rw [e]
        rw [e4, e5]
        refine ⟨⟨ho, hp, fun _ => ⟨nd.asc, fun _ => p2.nd.ne⟩⟩, ?_, ?_⟩
        · rw [if_pos rfl]
          exact .rd (j := 0) p2 (by omega) (.inl ⟨rfl, rfl⟩)
        · rw [if_pos rfl]; show false = _; simp; omega

/-- A Lock on its way to node t with the page P: m says how much is left of its work. -/
inductive LW (F : Nat) (key : ByteArray) (lvl : Nat) (l0 : List Cel) (t : Nat) (P : Pg) : Nat → Ls → Prop
  | fnd {d : Nat} {s : Fs} (h : FW F key lvl l0 (d + 1) t s) (hd : d ≤ 1111) : LW F key lvl l0 t P (19 + d) (.fnd s)
  | seek {N : Nat} {K : ByteArray} {M : Int} (hN : N ≤ 1) : LW F key lvl l0 t P 18 (.acq t false N K M)
  | ready : LW F key lvl l0 t P 17 (.acq t true 0 ⟨#[]⟩ 0)
  | own {r : Nat} (hr : r < P.xs.length + 3) : LW F key lvl l0 t P (4 + (P.xs.length + 3 - r)) (.own t 1 (got P r))
  | lck : LW F key lvl l0 t P 4 (.lck t 1 (got P (P.xs.length + 3)))
/-- Node t holds P and covers the key. -/
structure Tgt (F : Nat) (key : ByteArray) (l0 : List Cel) (t : Nat) (P : Pg) : Prop where
  nd : Nd F l0 t P
  one : 1 ≤ t
  top : t ≤ 100
  cov : (P.la || ltB key.toList P.hi.toList) = true
section
variable {F : Nat} {key : ByteArray} {lvl : Nat} {l0 l : List Cel} {h : Nat → Bool} {t : Nat} {P : Pg}
theorem LW.fndStep (h4 : 4 ≤ F) (h6 : F ≤ 6) (k : Lks F l0 l h) (T : Tgt F key l0 t P) {m : Nat} {s : Fs} (w : LW F key lvl l0 t P m (.fnd s)) :
    Lok F key lvl l (.fnd s) ∧ lmem F l (.fnd s) = l ∧ (lgo F key lvl l (.fnd s)).fin = false ∧ ∃ m', m' < m ∧ 18 ≤ m' ∧ LW F key lvl l0 t P m' (lgo F key lvl l (.fnd s)) := by
  cases w with
  | fnd hf hd =>
    rename_i d
    obtain ⟨h1, h2, h3⟩ := hf.step h4 h6 k
    have e0 : lgo F key lvl l (.fnd s) = ldo (fgo F key lvl l s) := rfl
    rw [e0]
    refine ⟨h1, rfl, ?_⟩
    have ht := T.one
    have ht2 := T.top
    generalize fgo F key lvl l s = s' at h2 h3
    cases s' with
    | root =>
      have hd0 : d ≠ 0 := by intro e; rw [e] at h3; cases h3
      obtain ⟨d', rfl⟩ : ∃ d', d = d' + 1 := ⟨d - 1, by omega⟩
      exact ⟨rfl, 19 + d', by omega, by omega, .fnd h2 (by omega)⟩
    | rd n y =>
      have hd0 : d ≠ 0 := by intro e; rw [e] at h3; cases h3
      obtain ⟨d', rfl⟩ : ∃ d', d = d' + 1 := ⟨d - 1, by omega⟩
      exact ⟨rfl, 19 + d', by omega, by omega, .fnd h2 (by omega)⟩
    | arr n y =>
      have e : n = t := by cases h2; rfl
      subst e
      have e1 : ldo (.arr n y) = .acq n false 0 ⟨#[]⟩ 0 := if_pos ⟨ht, ht2⟩
      rw [e1]
      exact ⟨rfl, 18, by omega, by omega, .seek (by omega)⟩
    | no =>
      have e : 0 = t := by cases h2; rfl
      omega
theorem LW.seekStep (k : Lks F l0 l h) (T : Tgt F key l0 t P) {N : Nat} {K : ByteArray} {M : Int} (hN : N ≤ 1) :
    Lok F key lvl l (.acq t false N K M) ∧ lmem F l (.acq t false N K M) = l ∧ (h t = false → lgo F key lvl l (.acq t false N K M) = .acq t true 0 ⟨#[]⟩ 0) ∧ (h t = true → lgo F key lvl l (.acq t false N K M) = .acq t false 1 ⟨#[]⟩ 0) := by
  refine ⟨by show N < _; omega, rfl, fun e => ?_, fun e => ?_⟩ <;>
  · show Ls.acq t ((cellAt l (nla F t)).1.toNat % 2 == 0) (cellAt l (nla F t)).1.toNat (cellAt l (nla F t)).2.1 (cellAt l (nla F t)).2.2 = _
    rw [k.lat t T.one T.top, e]; rfl
theorem LW.readyStep (h4 : 4 ≤ F) (h6 : F ≤ 6) (hb : 10 + 100 * (F : Int) + 400 ≤ (l0.length : Int)) (k : Lks F l0 l h) (T : Tgt F key l0 t P) :
    Lok F key lvl l (.acq t true 0 ⟨#[]⟩ 0) ∧ (h t = false → lgo F key lvl l (.acq t true 0 ⟨#[]⟩ 0) = .own t 1 (got P 0) ∧ Lks F l0 (lmem F l (.acq t true 0 ⟨#[]⟩ 0)) (upd h t true)) ∧ (h t = true → lgo F key lvl l (.acq t true 0 ⟨#[]⟩ 0) = .acq t false 0 ⟨#[]⟩ 0 ∧ lmem F l (.acq t true 0 ⟨#[]⟩ 0) = l) := by
  have hn := nla_lo h4 h6 T.one T.top
  have hin : isIn l (nla F t) = true := by unfold isIn; rw [k.len]; simp; omega
  have hsw : swaps l (nla F t) ((0 : Nat) : Int) = !(h t) := by
    unfold swaps; rw [hin, k.lat t T.one T.top]
    cases h t <;> rfl
  have e1 : lgo F key lvl l (.acq t true 0 ⟨#[]⟩ 0) = if swaps l (nla F t) ((0 : Nat) : Int) then .own t (lockW 0) cs0 else .acq t false 0 ⟨#[]⟩ 0 := rfl
  have e2 : lmem F l (.acq t true 0 ⟨#[]⟩ 0) = if swaps l (nla F t) ((0 : Nat) : Int) then putAt l (nla F t) ((lockW 0 : Nat), ⟨#[]⟩, 0) else l := rfl
  rw [e1, e2, hsw]
  refine ⟨by show (0 : Nat) < _; omega, fun e => ?_, fun e => ?_⟩
  · rw [e]; simp only [Bool.not_false, if_true]
    refine ⟨by rw [got_zero]; rfl, k.put h4 h6 hb T.one T.top true⟩
  · rw [e]; simp
theorem LW.ownStep (h4 : 4 ≤ F) (h6 : F ≤ 6) (k : Lks F l0 l h) (T : Tgt F key l0 t P) {r : Nat} (hr : r < P.xs.length + 3) :
    Lok F key lvl l (.own t 1 (got P r)) ∧ lmem F l (.own t 1 (got P r)) = l ∧ ((r + 1 < P.xs.length + 3 ∧ lgo F key lvl l (.own t 1 (got P r)) = .own t 1 (got P (r + 1))) ∨ (r + 1 = P.xs.length + 3 ∧ lgo F key lvl l (.own t 1 (got P r)) = .lck t 1 (got P (P.xs.length + 3)))) := by
  have hP := k.page h4 h6 T.nd.len T.nd.holds
  have hc := nat_toNat (k.nats (nad F t r))
  have hpc := hP r (by omega)
  have hrd : (got P r).rd = r := rfl
  have ht : tk F (got P r) (cellAt l (nad F t r)).1.toNat (cellAt l (nad F t r)).2.1 (cellAt l (nad F t r)).2.2.toNat = got P (r + 1) := by
    apply tk_got T.nd.wf T.nd.len (by omega)
    rw [← hpc]; exact hc.1
  have e1 : lgo F key lvl l (.own t 1 (got P r)) = lown key t 1 (got P (r + 1)) := by
    show lown key t 1 (tk F (got P r) (cellAt l (nad F t (got P r).rd)).1.toNat (cellAt l (nad F t (got P r).rd)).2.1 (cellAt l (nad F t (got P r).rd)).2.2.toNat) = _
    rw [hrd, ht]
  refine ⟨⟨got_oks T.nd.len (by omega), ?_⟩, rfl, ?_⟩
  · by_cases h0 : r = 0
    · exact .inl h0
    · refine .inr ?_
      show r < if r = 0 then 0 else P.xs.length + 3
      rw [if_neg h0]; exact hr
  · rw [e1]
    have hgl := got_last (P := P) (r := r) hr
    have h2 : ((got P (r + 1)).rd = (got P (r + 1)).en) ↔ (r + 1 = P.xs.length + 3) := by
      have := hgl; rw [Bool.eq_iff_iff] at this; simpa using this
    by_cases hz : r + 1 = P.xs.length + 3
    · refine .inr ⟨hz, ?_⟩
      unfold lown
      rw [if_pos (h2.2 hz), hz]
      have hla : (got P (P.xs.length + 3)).la = P.la := by show (if P.xs.length + 3 < 2 then false else P.la) = P.la; rw [if_neg (by omega)]
      have hhi : (got P (P.xs.length + 3)).hi = P.hi := by show (if P.xs.length + 3 < 2 then (⟨#[]⟩ : ByteArray) else P.hi) = P.hi; rw [if_neg (by omega)]
      rw [hla, hhi, if_pos T.cov]
    · refine .inl ⟨by omega, ?_⟩
      unfold lown
      rw [if_neg (fun e => hz (h2.1 e))]
/-- One Lock alone: every step makes its work less. -/
theorem LW.alone (h4 : 4 ≤ F) (h6 : F ≤ 6) (hb : 10 + 100 * (F : Int) + 400 ≤ (l0.length : Int)) (T : Tgt F key l0 t P) {m : Nat} {s : Ls} (w : LW F key lvl l0 t P m s) (hs : s.fin = false) (k : Lks F l0 l (fun n => decide (n = t) && decide (m < 17))) :
    Lok F key lvl l s ∧ ∃ m', m' < m ∧ LW F key lvl l0 t P m' (lgo F key lvl l s) ∧ Lks F l0 (lmem F l s) (fun n => decide (n = t) && decide (m' < 17)) := by
  have hlen := T.nd.len
  have nofin : ∀ {m0 s0}, LW F key lvl l0 t P m0 s0 → s0.fin = false → 4 < m0 := fun w0 h0 => by
    cases w0 with
    | fnd _ _ => omega
    | seek _ => omega
    | ready => omega
    | own hr => omega
    | lck => cases h0
  cases w with
  | fnd hf hd =>
    rename_i d s
    obtain ⟨h1, h2, h3, m', hm', hm2, hw'⟩ := LW.fndStep h4 h6 k T (.fnd hf hd)
    refine ⟨h1, m', hm', hw', ?_⟩
    rw [h2]
    have this : ¬ m' < 17 := by omega
    have e1 : (fun n => decide (n = t) && decide (m' < 17)) = (fun n => decide (n = t) && decide (19 + d < 17)) := by
      funext n; simp [this]; omega
    rw [e1]; exact k
  | seek hN =>
    obtain ⟨h1, h2, h3, -⟩ := LW.seekStep (lvl := lvl) k T hN
    rename_i N K M
    refine ⟨h1, 17, by omega, ?_, ?_⟩
    · rw [h3 (by simp)]; exact .ready
    · rw [h2]
      have e1 : (fun n => decide (n = t) && decide (17 < 17)) = (fun n => decide (n = t) && decide (18 < 17)) := by funext n; simp
      rw [e1]; exact k
  | ready =>
    obtain ⟨h1, h2, -⟩ := LW.readyStep (lvl := lvl) h4 h6 hb k T
    obtain ⟨h3, h5⟩ := h2 (by simp)
    refine ⟨h1, 4 + (P.xs.length + 3 - 0), by omega, by rw [h3]; exact .own (by omega), ?_⟩
    have e1 : (fun n => decide (n = t) && decide (4 + (P.xs.length + 3 - 0) < 17)) = upd (fun n => decide (n = t) && decide (17 < 17)) t true := by
      funext n
      unfold upd
      by_cases e : n = t
      · simp [e]; omega
      · simp [e]
    rw [e1]; exact h5
  | own hr =>
    rename_i r
    obtain ⟨h1, h2, h3⟩ := LW.ownStep (lvl := lvl) h4 h6 k T hr
    have e1 : ∀ m', m' < 17 → (fun n => decide (n = t) && decide (m' < 17)) = (fun n => decide (n = t) && decide (4 + (P.xs.length + 3 - r) < 17)) := fun m' hm => by
      funext n; congr 1; exact decide_eq_decide.2 ⟨fun _ => by omega, fun _ => hm⟩
    rcases h3 with ⟨h4', h5⟩ | ⟨h4', h5⟩
    · refine ⟨h1, 4 + (P.xs.length + 3 - (r + 1)), by omega, by rw [h5]; exact .own h4', ?_⟩
      rw [h2, e1 _ (by omega)]; exact k
    · refine ⟨h1, 4, by omega, by rw [h5]; exact .lck, ?_⟩
      rw [h2, e1 _ (by omega)]; exact k
  | lck => cases hs
theorem LW.ge {m : Nat} {s : Ls} (w : LW F key lvl l0 t P m s) : 4 ≤ m ∧ (s.fin = false → 4 < m) := by
  cases w with
  | fnd _ _ => exact ⟨by omega, fun _ => by omega⟩
  | seek _ => exact ⟨by omega, fun _ => by omega⟩
  | ready => exact ⟨by omega, fun _ => by omega⟩
  | own _ => exact ⟨by omega, fun _ => by omega⟩
  | lck => exact ⟨by omega, fun h => by cases h⟩
/-- A Lock whose node another one holds waits. -/
theorem LW.waits (h4 : 4 ≤ F) (h6 : F ≤ 6) (k : Lks F l0 l h) (T : Tgt F key l0 t P) (hh : h t = true) {m : Nat} {s : Ls} (w : LW F key lvl l0 t P m s) (hm : 18 ≤ m) (hF : F ≤ 6) :
    Lok F key lvl l s ∧ lmem F l s = l ∧ s.fin = false ∧ (lgo F key lvl l s).fin = false ∧ ∃ m', m' ≤ m ∧ 18 ≤ m' ∧ LW F key lvl l0 t P m' (lgo F key lvl l s) := by
  have hlen := T.nd.len
  cases w with
  | fnd hf hd =>
    obtain ⟨h1, h2, h3, m', hm', hm2, hw'⟩ := LW.fndStep h4 h6 k T (.fnd hf hd)
    exact ⟨h1, h2, rfl, h3, m', by omega, hm2, hw'⟩
  | seek hN =>
    obtain ⟨h1, h2, -, h3⟩ := LW.seekStep (lvl := lvl) k T hN
    rw [h3 hh]
    exact ⟨h1, h2, rfl, rfl, 18, by omega, by omega, .seek (by omega)⟩
  | ready => omega
  | own hr => omega
  | lck => omega
end

/-- A Lock alone, on a level that exists (t is not 0) or not. -/
def Way (F : Nat) (key : ByteArray) (lvl : Nat) (l0 : List Cel) (t : Nat) (P : Pg) (m : Nat) (s : Ls) (l : List Cel) : Prop :=
  (t ≠ 0 ∧ LW F key lvl l0 t P m s ∧ Lks F l0 l (fun n => decide (n = t) && decide (m < 17))) ∨ (t = 0 ∧ l = l0 ∧ ((∃ d fs, s = .fnd fs ∧ FW F key lvl l0 (d + 1) 0 fs ∧ m = 19 + d) ∨ (s = .bad ∧ m = 4)))
section
variable {F : Nat} {key : ByteArray} {lvl : Nat} {l0 l : List Cel} {t : Nat} {P : Pg}
theorem Lks.one (hz : ∀ n, 1 ≤ n → n ≤ 100 → cellAt l0 (nla F n) = cel0) (h4 : 4 ≤ F) (h6 : F ≤ 6) (hb : 10 + 100 * (F : Int) + 400 ≤ (l0.length : Int)) (h1 : 1 ≤ t) (h2 : t ≤ 100) {h : Nat → Bool} (k : Lks F l0 l h) (hh : ∀ n, 1 ≤ n → n ≤ 100 → h n = decide (n = t)) : l = putAt l0 (nla F t) (lbit true) := by
  have hn := nla_lo h4 h6 h1 h2
  apply cells_ext (by rw [putAt_length]; exact k.len)
  intro i
  by_cases e : ∃ n, 1 ≤ n ∧ n ≤ 100 ∧ i = nla F n
  · obtain ⟨n, a, b, rfl⟩ := e
    rw [k.lat n a b, hh n a b]
    by_cases e : n = t
    · subst e; rw [cellAt_same ⟨by omega, by omega⟩]; simp
    · rw [cellAt_other (nla_ne h4 h6 h1 h2 a b (Ne.symm e)), hz n a b]; simp [e]; rfl
  · rw [cellAt_other (fun c => e ⟨t, h1, h2, c.symm⟩)]
    exact k.rest i (fun n a b c => e ⟨n, a, b, c⟩)
theorem Way.step (h4 : 4 ≤ F) (h6 : F ≤ 6) (hz : ∀ n, 1 ≤ n → n ≤ 100 → cellAt l0 (nla F n) = cel0) (hn : Nats l0) (hb : 10 + 100 * (F : Int) + 400 ≤ (l0.length : Int)) (T : t ≠ 0 → Tgt F key l0 t P) {m : Nat} {s : Ls} (w : Way F key lvl l0 t P m s l) (hs : s.fin = false) :
    Lok F key lvl l s ∧ Nats l ∧ 4 < m ∧ ∃ m', m' < m ∧ Way F key lvl l0 t P m' (lgo F key lvl l s) (lmem F l s) := by
  rcases w with ⟨ht, hw, hk⟩ | ⟨rfl, rfl, ⟨d, fs, rfl, hf, rfl⟩ | ⟨rfl, rfl⟩⟩
  · obtain ⟨h1, m', h2, h3, h5⟩ := hw.alone h4 h6 hb (T ht) hs hk
    exact ⟨h1, hk.nats, hw.ge.2 hs, m', h2, .inl ⟨ht, h3, h5⟩⟩
  · obtain ⟨h1, h2, h3⟩ := hf.step h4 h6 (Lks.start h4 hz hn)
    have e0 : lgo F key lvl l (.fnd fs) = ldo (fgo F key lvl l fs) := rfl
    rw [e0]
    refine ⟨h1, hn, by omega, ?_⟩
    generalize fgo F key lvl l fs = s' at h2 h3
    cases s' with
    | root =>
      have hd0 : d ≠ 0 := by intro e; rw [e] at h3; cases h3
      obtain ⟨d', rfl⟩ : ∃ d', d = d' + 1 := ⟨d - 1, by omega⟩
      exact ⟨19 + d', by omega, .inr ⟨rfl, rfl, .inl ⟨d', _, rfl, h2, rfl⟩⟩⟩
    | rd n y =>
      have hd0 : d ≠ 0 := by intro e; rw [e] at h3; cases h3
      obtain ⟨d', rfl⟩ : ∃ d', d = d' + 1 := ⟨d - 1, by omega⟩
      exact ⟨19 + d', by omega, .inr ⟨rfl, rfl, .inl ⟨d', _, rfl, h2, rfl⟩⟩⟩
    | arr n y =>
      have e : n = 0 := by cases h2; rfl
      subst e
      exact ⟨4, by omega, .inr ⟨rfl, rfl, .inr ⟨rfl, rfl⟩⟩⟩
    | no => exact ⟨4, by omega, .inr ⟨rfl, rfl, .inr ⟨rfl, rfl⟩⟩⟩
  · cases hs
theorem got_all (P : Pg) : (got P (P.xs.length + 3)).lv = P.lv ∧ (got P (P.xs.length + 3)).hi = P.hi ∧ (got P (P.xs.length + 3)).la = P.la ∧ (got P (P.xs.length + 3)).rt = P.rt ∧ (got P (P.xs.length + 3)).xs = P.xs := by
  have h := got_end P
  generalize got P (P.xs.length + 3) = s at h
  subst h
  exact ⟨rfl, rfl, rfl, rfl, rfl⟩
end
/-- What Held answers for a node with this page. -/
def hpg (A : Option Addr) (c n wd : Nat) (P : Pg) : Value := .agg #[.int .u64 (n : Int), .int .u64 (wd : Int), .int .i64 (P.lv : Int), .slice A P.xs.length c, .string P.hi, .bool P.la, .int .u64 (P.rt : Int)]
end Go.Proofs.YtkpbbnpfdighjaaGreat
