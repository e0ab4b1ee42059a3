/-
  Several Locks that lock, hold and release nodes in any schedule, and then in turn: at most one has a node, and all finish. No program runs here. Condition: none.
-/
import Derived.Test.YtkpbbnpfdighjaaGreatLkPath
namespace Go.Proofs.YtkpbbnpfdighjaaGreat
open Go.RowKit Go.Deep Plain
set_option linter.unusedVariables false

def sm (f : Nat → Nat) : Nat → Nat
  | 0 => 0
  | n + 1 => sm f n + f n
theorem sm_le {f g : Nat → Nat} : ∀ {n : Nat}, (∀ i, i < n → f i ≤ g i) → sm f n ≤ sm g n
  | 0, _ => Nat.le_refl _
  | n + 1, h => by
    have h1 := sm_le (n := n) (fun i hi => h i (by omega))
    have h2 := h n (by omega)
    show sm f n + f n ≤ sm g n + g n
    omega
theorem sm_le1 {f g : Nat → Nat} : ∀ {n : Nat}, (∀ i, i < n → f i ≤ g i + 1) → sm f n ≤ sm g n + n
  | 0, _ => Nat.le_refl _
  | n + 1, h => by
    have h1 := sm_le1 (n := n) (fun i hi => h i (by omega))
    have h2 := h n (by omega)
    show sm f n + f n ≤ sm g n + g n + (n + 1)
    omega
theorem sm_drop {f g : Nat → Nat} {d k : Nat} : ∀ {n : Nat}, k < n → (∀ i, i < n → i ≠ k → f i ≤ g i) → f k + d ≤ g k → sm f n + d ≤ sm g n
  | 0, hk, _, _ => by omega
  | n + 1, hk, h, hd => by
    show sm f n + f n + d ≤ sm g n + g n
    by_cases e : k = n
    · subst e
      have := sm_le (n := k) (fun i hi => h i (by omega) (by omega))
      omega
    · have h1 := sm_drop (n := n) (by omega) (fun i hi hne => h i (by omega) hne) hd
      have h2 := h n (by omega) (Ne.symm e)
      omega
theorem sm_drop1 {f g : Nat → Nat} {d k : Nat} : ∀ {n : Nat}, k < n → (∀ i, i < n → i ≠ k → f i ≤ g i + 1) → f k + d ≤ g k → sm f n + d ≤ sm g n + (n - 1)
  | 0, hk, _, _ => by omega
  | n + 1, hk, h, hd => by
    show sm f n + f n + d ≤ sm g n + g n + (n + 1 - 1)
    by_cases e : k = n
    · subst e
      have := sm_le1 (n := k) (fun i hi => h i (by omega) (by omega))
      omega
    · have h1 := sm_drop1 (n := n) (by omega) (fun i hi hne => h i (by omega) hne) hd
      have h2 := h n (by omega) (Ne.symm e)
      omega
theorem sm_eq {f g : Nat → Nat} : ∀ {n : Nat}, (∀ i, i < n → f i = g i) → sm f n = sm g n
  | 0, _ => rfl
  | n + 1, h => by
    show sm f n + f n = sm g n + g n
    rw [sm_eq (n := n) (fun i hi => h i (by omega)), h n (by omega)]
/-- A machine of the law: what 'held' says of it, how much is left of its work, and its Lock's state. -/
inductive MSt (F : Nat) (key : ByteArray) (l0 : List Cel) (t : Nat) (P : Pg) : Int → Nat → Ls → Prop
  | run {m : Nat} {s : Ls} (w : LW F key 0 l0 t P m s) (hs : s.fin = false) : MSt F key l0 t P 0 m s
  | hold {h : Nat} (h1 : 1 ≤ h) (h4 : h ≤ 4) : MSt F key l0 t P (h : Int) h (.lck t 1 (got P (P.xs.length + 3)))
  | gone : MSt F key l0 t P (-1) 0 (.lck t 1 (got P (P.xs.length + 3)))
/-- It has its node locked. -/
def owns (m : Nat) : Prop := 0 < m ∧ m < 17
/-- What counts for the work that is left: one that finds its node locked begins anew. -/
def psi (φ : Nat → Nat) (h : Nat → Bool) (t : Nat → Nat) (i : Nat) : Nat := if φ i = 17 ∧ h (t i) = true then 18 else φ i
/-- It isn't done, and doesn't wait. -/
def live (φ : Nat → Nat) (h : Nat → Bool) (t : Nat → Nat) (i : Nat) : Prop := 0 < φ i ∧ ¬ (h (t i) = true ∧ (φ i = 17 ∨ φ i = 18))
structure Sch (F : Nat) (l0 : List Cel) (n : Nat) (key : Nat → ByteArray) (t : Nat → Nat) (P : Nat → Pg) (φ : Nat → Nat) (hv : Nat → Int) (s : Nat → Ls) (l : List Cel) (h : Nat → Bool) : Prop where
  tgt : ∀ i, i < n → Tgt F (key i) l0 (t i) (P i)
  mst : ∀ i, i < n → MSt F (key i) l0 (t i) (P i) (hv i) (φ i) (s i)
  lks : Lks F l0 l h
  own : ∀ i, i < n → owns (φ i) → h (t i) = true
  who : ∀ x, h x = true → ∃ i, i < n ∧ owns (φ i) ∧ t i = x
  uni : ∀ i j, i < n → j < n → owns (φ i) → owns (φ j) → t i = t j → i = j
/-- A pick of machine i: if it doesn't wait, there is less to do; else all is as it was. -/
def Adv (n : Nat) (t : Nat → Nat) (φ : Nat → Nat) (h : Nat → Bool) (φ' : Nat → Nat) (h' : Nat → Bool) (i : Nat) : Prop :=
  (live φ h t i ∧ sm (psi φ' h' t) n + 1 ≤ sm (psi φ h t) n) ∨ (¬ live φ h t i ∧ sm (psi φ' h' t) n = sm (psi φ h t) n ∧ ∀ w, w < n → live φ h t w → live φ' h' t w)
section
variable {F : Nat} {l0 l : List Cel} {n : Nat} {key : Nat → ByteArray} {t : Nat → Nat} {P : Nat → Pg} {φ : Nat → Nat} {hv : Nat → Int} {s : Nat → Ls} {h : Nat → Bool} {i : Nat}
/-- What a change of machine i alone leaves, where the locks stay. -/
theorem Sch.chg (S : Sch F l0 n key t P φ hv s l h) (hi : i < n) {m' : Nat} {v' : Int} {s' : Ls} (hm : MSt F (key i) l0 (t i) (P i) v' m' s') (ho : owns m' ↔ owns (φ i)) : Sch F l0 n key t P (upd φ i m') (upd hv i v') (upd s i s') l h where
  tgt := S.tgt
  mst := fun j hj => by
    by_cases e : j = i
    · subst e; rw [upd_at, upd_at, upd_at]; exact hm
    · rw [upd_ne _ _ e, upd_ne _ _ e, upd_ne _ _ e]; exact S.mst j hj
  lks := S.lks
  own := fun j hj hoj => by
    by_cases e : j = i
    · subst e; rw [upd_at] at hoj; exact S.own j hj (ho.1 hoj)
    · rw [upd_ne _ _ e] at hoj; exact S.own j hj hoj
  who := fun x hx => by
    obtain ⟨j, hj, hoj, ht⟩ := S.who x hx
    refine ⟨j, hj, ?_, ht⟩
    by_cases e : j = i
    · subst e; rw [upd_at]; exact ho.2 hoj
    · rw [upd_ne _ _ e]; exact hoj
  uni := fun a b ha hb hoa hob hab => by
    refine S.uni a b ha hb ?_ ?_ hab
    · by_cases e : a = i
      · subst e; rw [upd_at] at hoa; exact ho.1 hoa
      · rw [upd_ne _ _ e] at hoa; exact hoa
    · by_cases e : b = i
      · subst e; rw [upd_at] at hob; exact ho.1 hob
      · rw [upd_ne _ _ e] at hob; exact hob
theorem psi_ne {m' : Nat} {h' : Nat → Bool} {j : Nat} (e : j ≠ i) (hh : h' (t j) = h (t j)) : psi (upd φ i m') h' t j = psi φ h t j := by
  unfold psi; rw [upd_ne _ _ e, hh]
theorem psi_at {m' : Nat} {h' : Nat → Bool} : psi (upd φ i m') h' t i = if m' = 17 ∧ h' (t i) = true then 18 else m' := by
  unfold psi; rw [upd_at]
/-- The locks stay, and there is less to do. -/
theorem adv_less (hi : i < n) {m' : Nat} (hl : live φ h t i) (hm : m' < φ i) (h17 : m' = 17 → h (t i) = true → 18 < φ i) : Adv n t φ h (upd φ i m') h i := by
  refine .inl ⟨hl, sm_drop hi (fun j hj e => Nat.le_of_eq (psi_ne e rfl)) ?_⟩
  rw [psi_at]
  have : psi φ h t i = φ i ∨ psi φ h t i = 18 := by unfold psi; split <;> simp
  unfold psi
  split
  · rename_i e
    have := h17 e.1 e.2
    split <;> omega
  · split <;> omega
/-- It waits. -/
theorem adv_wait (hi : i < n) (hh : h (t i) = true) (hp : φ i = 17 ∨ φ i = 18) : Adv n t φ h (upd φ i 18) h i := by
  refine .inr ⟨fun e => e.2 ⟨hh, hp⟩, sm_eq fun j hj => ?_, fun w hw hl => ?_⟩
  · by_cases e : j = i
    · subst e
      rw [psi_at, if_neg (by omega)]
      unfold psi
      rcases hp with e | e
      · rw [if_pos ⟨e, hh⟩]
      · rw [if_neg (by omega), e]
    · exact psi_ne e rfl
  · have e : w ≠ i := fun e => by subst e; exact hl.2 ⟨hh, hp⟩
    unfold live; rw [upd_ne _ _ e]; exact hl
/-- A step of a Lock that isn't at its end. -/
theorem Sch.run (S : Sch F l0 n key t P φ hv s l h) (h4 : 4 ≤ F) (h6 : F ≤ 6) (hn4 : n ≤ 4) (hb : 10 + 100 * (F : Int) + 400 ≤ (l0.length : Int)) (hi : i < n) (h0 : hv i = 0) :
    Lok F (key i) 0 l (s i) ∧ (s i).fin = false ∧ ∃ (m' : Nat) (h' : Nat → Bool), Sch F l0 n key t P (upd φ i m') (upd hv i (if (lgo F (key i) 0 l (s i)).fin then 4 else 0)) (upd s i (lgo F (key i) 0 l (s i))) (lmem F l (s i)) h' ∧ 0 < m' ∧ 0 < φ i ∧ Adv n t φ h (upd φ i m') h' i := by
  have hm := S.mst i hi
  have T := S.tgt i hi
  have hlen := T.nd.len
  rw [h0] at hm
  generalize hs : s i = a at hm
  generalize hp : φ i = b at hm
  generalize hv9 : (0 : Int) = v at hm
  cases hm with
  | hold h1 h4' => omega
  | gone => omega
  | run w hf =>
    cases w with
    | fnd hfw hd =>
      rename_i d fs
      obtain ⟨h1, h2, h3, m', hm', hm2, hw'⟩ := LW.fndStep h4 h6 S.lks T (.fnd hfw hd)
      refine ⟨h1, rfl, m', h, ?_, by omega, by omega, ?_⟩
      · rw [h3, h2]
        refine S.chg hi (.run hw' h3) ⟨fun e => ?_, fun e => ?_⟩
        · have := e.2; omega
        · have := e.2; rw [hp] at this; omega
      · exact adv_less hi ⟨by omega, fun e => by omega⟩ (by omega) (fun e _ => by omega)
    | seek hN =>
      obtain ⟨h1, h2, h3, h5⟩ := LW.seekStep (lvl := 0) S.lks T hN
      refine ⟨h1, rfl, ?_⟩
      cases hh : h (t i) with
      | false =>
        rw [h3 hh, h2]
        refine ⟨17, h, S.chg hi (.run .ready rfl) ⟨fun e => ?_, fun e => ?_⟩, by omega, by omega, ?_⟩
        · have := e.2; omega
        · have := e.2; rw [hp] at this; omega
        · exact adv_less hi ⟨by omega, fun e => by rw [hh] at e; cases e.1⟩ (by omega) (fun _ e => by rw [hh] at e; cases e)
      | true =>
        rw [h5 hh, h2]
        refine ⟨18, h, S.chg hi (.run (.seek (by omega)) rfl) ⟨fun e => ?_, fun e => ?_⟩, by omega, by omega, ?_⟩
        · have := e.2; omega
        · have := e.2; rw [hp] at this; omega
        · exact adv_wait hi hh (.inr hp)
    | ready =>
      obtain ⟨h1, h2, h3⟩ := LW.readyStep (lvl := 0) h4 h6 hb S.lks T
      refine ⟨h1, rfl, ?_⟩
      cases hh : h (t i) with
      | true =>
        obtain ⟨e1, e2⟩ := h3 hh
        rw [e1, e2]
        refine ⟨18, h, S.chg hi (.run (.seek (by omega)) rfl) ⟨fun e => ?_, fun e => ?_⟩, by omega, by omega, ?_⟩
        · have := e.2; omega
        · have := e.2; rw [hp] at this; omega
        · exact adv_wait hi hh (.inl hp)
      | false =>
        obtain ⟨e1, e2⟩ := h2 hh
        rw [e1]
        have hnew : ∀ j, j < n → owns (φ j) → t j ≠ t i := fun j hj hoj e => by
          have := S.own j hj hoj
          rw [e, hh] at this; cases this
        refine ⟨4 + ((P i).xs.length + 3 - 0), upd h (t i) true, ⟨S.tgt, fun j hj => ?_, e2, fun j hj hoj => ?_, fun x hx => ?_, fun a b ha hb' hoa hob hab => ?_⟩, by omega, by omega, ?_⟩
        · by_cases e : j = i
          · subst e; rw [upd_at, upd_at, upd_at]; exact .run (.own (by omega)) rfl
          · rw [upd_ne _ _ e, upd_ne _ _ e, upd_ne _ _ e]; exact S.mst j hj
        · by_cases e : j = i
          · subst e; exact upd_at _ _ _
          · rw [upd_ne _ _ e] at hoj
            rw [upd_ne _ _ (hnew j hj hoj)]
            exact S.own j hj hoj
        · by_cases e : x = t i
          · exact ⟨i, hi, by rw [upd_at]; exact ⟨by omega, by omega⟩, e.symm⟩
          · rw [upd_ne _ _ e] at hx
            obtain ⟨j, hj, hoj, ht⟩ := S.who x hx
            have hji : j ≠ i := fun e' => by subst e'; exact e ht.symm
            exact ⟨j, hj, by rw [upd_ne _ _ hji]; exact hoj, ht⟩
        · by_cases ea : a = i
          · by_cases eb : b = i
            · omega
            · subst ea; rw [upd_ne _ _ eb] at hob
              exact absurd hab.symm (hnew b hb' hob)
          · by_cases eb : b = i
            · subst eb; rw [upd_ne _ _ ea] at hoa
              exact absurd hab (hnew a ha hoa)
            · rw [upd_ne _ _ ea] at hoa
              rw [upd_ne _ _ eb] at hob
              exact S.uni a b ha hb' hoa hob hab
        · refine .inl ⟨⟨by omega, fun e => by rw [hh] at e; cases e.1⟩, ?_⟩
          have hd := sm_drop1 (f := psi (upd φ i (4 + ((P i).xs.length + 3 - 0))) (upd h (t i) true) t) (g := psi φ h t) (d := 4) hi (fun j hj e => ?_) ?_
          · omega
          · unfold psi; rw [upd_ne _ _ e]
            split <;> split <;> omega
          · rw [psi_at, if_neg (by omega)]
            unfold psi
            rw [if_neg (by rw [hh]; simp), hp]
            omega
    | own hr =>
      rename_i r
      obtain ⟨h1, h2, h3⟩ := LW.ownStep (lvl := 0) h4 h6 S.lks T hr
      refine ⟨h1, rfl, ?_⟩
      rw [h2]
      rcases h3 with ⟨h4', h5⟩ | ⟨h4', h5⟩
      · rw [h5]
        refine ⟨4 + ((P i).xs.length + 3 - (r + 1)), h, S.chg hi (.run (.own h4') rfl) ⟨fun _ => ?_, fun _ => ?_⟩, by omega, by omega, ?_⟩
        · rw [hp]; exact ⟨by omega, by omega⟩
        · exact ⟨by omega, by omega⟩
        · exact adv_less hi ⟨by omega, fun e => by omega⟩ (by omega) (fun e _ => by omega)
      · rw [h5]
        refine ⟨4, h, S.chg hi (.hold (h := 4) (by omega) (by omega)) ⟨fun _ => ?_, fun _ => ?_⟩, by omega, by omega, ?_⟩
        · rw [hp]; exact ⟨by omega, by omega⟩
        · exact ⟨by omega, by omega⟩
        · exact adv_less hi ⟨by omega, fun e => by omega⟩ (by omega) (fun e _ => by omega)
    | lck => cases hf
/-- It releases its node. -/
theorem Sch.rel (S : Sch F l0 n key t P φ hv s l h) (h4 : 4 ≤ F) (h6 : F ≤ 6) (hb : 10 + 100 * (F : Int) + 400 ≤ (l0.length : Int)) (hi : i < n) (h0 : hv i = 1) :
    φ i = 1 ∧ s i = .lck (t i) 1 (got (P i) ((P i).xs.length + 3)) ∧ Sch F l0 n key t P (upd φ i 0) (upd hv i (-1)) s (putAt l (nla F (t i)) (((unlockW 1 : Nat) : Int), ⟨#[]⟩, 0)) (upd h (t i) false) ∧ Adv n t φ h (upd φ i 0) (upd h (t i) false) i := by
  have hm := S.mst i hi
  have T := S.tgt i hi
  rw [h0] at hm
  generalize hs : s i = a at hm
  generalize hp : φ i = b at hm
  generalize hv9 : (1 : Int) = v at hm
  cases hm with
  | run w hf => omega
  | gone => omega
  | hold h1 h5 =>
    obtain rfl : b = 1 := by omega
    have hoi : owns (φ i) := by rw [hp]; exact ⟨by omega, by omega⟩
    refine ⟨rfl, rfl, ⟨S.tgt, fun j hj => ?_, S.lks.put h4 h6 hb T.one T.top false, fun j hj hoj => ?_, fun x hx => ?_, fun a b ha hb' hoa hob hab => ?_⟩, ?_⟩
    · by_cases e : j = i
      · subst e; rw [upd_at, upd_at, hs]; exact .gone
      · rw [upd_ne _ _ e, upd_ne _ _ e]; exact S.mst j hj
    · by_cases e : j = i
      · subst e; rw [upd_at] at hoj; exact absurd hoj.1 (by omega)
      · rw [upd_ne _ _ e] at hoj
        rw [upd_ne _ _ (fun e' => e (S.uni j i hj hi hoj hoi e'))]
        exact S.own j hj hoj
    · by_cases e : x = t i
      · subst e; rw [upd_at] at hx; cases hx
      · rw [upd_ne _ _ e] at hx
        obtain ⟨j, hj, hoj, ht⟩ := S.who x hx
        have hji : j ≠ i := fun e' => by subst e'; exact e ht.symm
        exact ⟨j, hj, by rw [upd_ne _ _ hji]; exact hoj, ht⟩
    · have ea : a ≠ i := fun e => by subst e; rw [upd_at] at hoa; exact absurd hoa.1 (by omega)
      have eb : b ≠ i := fun e => by subst e; rw [upd_at] at hob; exact absurd hob.1 (by omega)
      rw [upd_ne _ _ ea] at hoa
      rw [upd_ne _ _ eb] at hob
      exact S.uni a b ha hb' hoa hob hab
    · refine .inl ⟨⟨by omega, fun e => by omega⟩, sm_drop hi (fun j hj e => ?_) ?_⟩
      · unfold psi; rw [upd_ne _ _ e]
        by_cases hj' : t j = t i
        · rw [hj', upd_at]
          split <;> split <;> rename_i e1 e2
          · cases e1.2
          · cases e1.2
          · omega
          · omega
        · rw [upd_ne _ _ hj']; omega
      · rw [psi_at]
        unfold psi
        rw [if_neg (by omega), if_neg (by omega), hp]; omega
/-- Who holds a node has 'held' above zero: it owns its node. -/
theorem Sch.holds (S : Sch F l0 n key t P φ hv s l h) (hi : i < n) (h0 : 0 < hv i) : owns (φ i) ∧ s i = .lck (t i) 1 (got (P i) ((P i).xs.length + 3)) := by
  have hm := S.mst i hi
  generalize s i = a at hm ⊢
  generalize φ i = b at hm ⊢
  generalize hv i = v at hm h0
  cases hm with
  | run w hf => omega
  | hold h1 h4 => exact ⟨⟨by omega, by omega⟩, rfl⟩
  | gone => omega
end
/-- The number of machines that aren't done. -/
def left (φ : Nat → Nat) (n : Nat) : Nat := sm (fun i => if φ i = 0 then 0 else 1) n
end Go.Proofs.YtkpbbnpfdighjaaGreat
