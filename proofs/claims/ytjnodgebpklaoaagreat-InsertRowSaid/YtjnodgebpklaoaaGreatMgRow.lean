/-
 The start of the law's loop: the pages that the split makes, what lies in the memory, and the world with the machines just made. Condition: a fanout of four to six.
-/
import Derived.Test.YtjnodgebpklaoaaGreatMgPath
import Derived.Test.YtjnodgebpklaoaaGreatLkRef
import Derived.Test.YtjnodgebpklaoaaGreatLkKeys
import Derived.Test.YtjnodgebpklaoaaGreatMgPlant
import Derived.Test.YtjnodgebpklaoaaGreatInNew
import Derived.Test.YtjnodgebpklaoaaGreatMgRes
namespace Go.Proofs.YtjnodgebpklaoaaGreat
open Go.RowKit Go.Deep Plain
set_option linter.unusedVariables false

section
variable {F n0 B b g : Nat} {W0 : World} {fb fd : Int} {key : ByteArray} {P Q R : Pg} {x qf qw rr : Nat} {w w' : World} {l : List Cel} {ks : List ByteArray}
theorem asc_sub {xs : List Sl} (h : Asc xs) (m : Nat) : Asc (xs.take m) ∧ Asc (xs.drop m) := by
 have hg : ∀ i x y, xs[i]? = some x → xs[i + 1]? = some y → kl x.1 y.1 = true := fun i x y hx hy => asc_get h (Nat.lt_succ_self i) hx hy
 refine ⟨asc_of_get fun i x y hx hy => ?_, asc_of_get fun i x y hx hy => ?_⟩
 ·have h1 := (List.getElem?_eq_some_iff.1 hx).1
  have h2 := (List.getElem?_eq_some_iff.1 hy).1
  rw [List.length_take] at h1 h2
  rw [List.getElem?_take, if_pos (by omega)] at hx hy
  exact hg i x y hx hy
 ·rw [List.getElem?_drop] at hx hy
  exact hg (m + i) x y hx (by rw [show m + i + 1 = m + (i + 1) by omega]; exact hy)
end
end Go.Proofs.YtjnodgebpklaoaaGreat
namespace Go.Proofs.YtjnodgebpklaoaaGreat
section
open Go.RowKit Go.Deep Plain
set_option linter.unusedVariables false

structure PgR (F : Nat) (lo : ByteArray) (P : Pg) : Prop where
 lv : P.lv = 0
 wf : Wf P
 len : P.xs.length ≤ F
 asc : Asc P.xs
 low : ∀ x ∈ P.xs, kl x.1 lo = false
 high : ∀ x ∈ P.xs, cov P x.1 = true
def RowR (F : Nat) : ByteArray → List (Nat × Pg) → Prop
 | _, [] => False
 | lo, [(_, P)] => P.la = true ∧ P.rt = 0 ∧ PgR F lo P
 | lo, (_, P) :: (n2, P2) :: r => P.la = false ∧ P.rt = n2 ∧ kl lo P.hi = true ∧ PgR F lo P ∧ RowR F P.hi ((n2, P2) :: r)
def allS (R : List (Nat × Pg)) : List Sl := R.flatMap fun x => x.2.xs
theorem allS_cons (x : Nat × Pg) (r : List (Nat × Pg)) : allS (x :: r) = x.2.xs ++ allS r := List.flatMap_cons
def putR (F : Nat) (key : ByteArray) (ref id m : Nat) (sp : ByteArray) : List (Nat × Pg) → List (Nat × Pg)
 | [] => []
 | (n, P) :: r => if cov P key = true then (if F < (npg P key ref).xs.length then (n, lpg (npg P key ref) m sp id) :: (id, rpg (npg P key ref) m) :: r else (n, npg P key ref) :: r) else (n, P) :: putR F key ref id m sp r
section
variable {F : Nat} {lo key : ByteArray} {ref id m : Nat} {sp : ByteArray}
theorem RowR.head {n : Nat} {P : Pg} {r : List (Nat × Pg)} (h : RowR F lo ((n, P) :: r)) : PgR F lo P := by
 cases r with
 | nil => exact h.2.2
 | cons x r => exact h.2.2.2.1
theorem RowR.tail {n : Nat} {P : Pg} {x : Nat × Pg} {r : List (Nat × Pg)} (h : RowR F lo ((n, P) :: x :: r)) : RowR F P.hi (x :: r) := h.2.2.2.2
def atR (key : ByteArray) : List (Nat × Pg) → Option (Nat × Pg)
 | [] => none
 | (n, P) :: r => if cov P key = true then some (n, P) else atR key r
theorem RowR.at (key : ByteArray) : ∀ {R : List (Nat × Pg)} {lo : ByteArray}, RowR F lo R → ∃ x, atR key R = some x ∧ x ∈ R ∧ cov x.2 key = true
 | [], _, h => h.elim
 | [(n, P)], lo, h => by
  have hc : cov P key = true := by unfold cov; rw [h.1]; rfl
  exact ⟨(n, P), by unfold atR; rw [if_pos hc], by simp, hc⟩
 | (n, P) :: x :: r, lo, h => by
  by_cases hc : cov P key = true
  ·exact ⟨(n, P), by unfold atR; rw [if_pos hc], by simp, hc⟩
  ·obtain ⟨y, hy, hm, hcy⟩ := RowR.at key h.tail
   exact ⟨y, by unfold atR; rw [if_neg hc]; exact hy, List.mem_cons_of_mem _ hm, hcy⟩
theorem cov_hi {P : Pg} (h : ¬ cov P key = true) : P.la = false ∧ kl key P.hi = false := by
 unfold cov at h
 cases hl : P.la <;> rw [hl] at h
 ·exact ⟨rfl, by simpa using h⟩
 ·exact absurd rfl h
theorem PgR.more {P : Pg} (h : PgR F lo P) (hk : kl key lo = false) (hc : cov P key = true) (hh : has key P.xs = false) (hF : (npg P key ref).xs.length ≤ F) : PgR F lo (npg P key ref) where
 lv := h.lv
 wf := h.wf
 len := hF
 asc := ins_asc _ _ h.asc hh
 low := fun x hx => by
  rcases ins_mem.1 hx with rfl | hx
  ·exact hk
  ·exact h.low x hx
 high := fun x hx => by
  show cov P x.1 = true
  rcases ins_mem.1 hx with rfl | hx
  ·exact hc
  ·exact h.high x hx

structure Hv (F : Nat) (X : Pg) (m : Nat) (sp : ByteArray) : Prop where
 m1 : 1 ≤ m
 m2 : m < X.xs.length
 mF : m ≤ F
 rF : X.xs.length - m ≤ F
 lo : ∀ x ∈ X.xs.take m, kl x.1 sp = true
 hi : ∀ x ∈ X.xs.drop m, kl x.1 sp = false
theorem hv_of {X : Pg} (ha : Asc X.xs) (hs : Sepr 0 X.xs m sp) (h1 : 1 ≤ m) (h2 : m < X.xs.length) (hF : m ≤ F) (hr : X.xs.length - m ≤ F) : Hv F X m sp := by
 obtain ⟨y0, hy0⟩ : ∃ y, X.xs[m - 1]? = some y := ⟨_, List.getElem?_eq_getElem (by omega)⟩
 obtain ⟨y1, hy1⟩ : ∃ y, X.xs[m]? = some y := ⟨_, List.getElem?_eq_getElem h2⟩
 have hsp : sepB y0.1 y1.1 = sp := hs y0 y1 hy0 hy1
 have h01 : kl y0.1 y1.1 = true := asc_get ha (by omega) hy0 hy1
 have g1 := sep_gt h01
 have g2 := sep_le h01
 rw [hsp] at g1 g2
 refine ⟨h1, h2, hF, hr, fun x hx => ?_, fun x hx => ?_⟩
 ·obtain ⟨i, hi⟩ := List.getElem?_of_mem hx
  rw [List.getElem?_take] at hi
  split at hi
  ·rename_i him
   by_cases e : i = m - 1
   ·subst e; rw [hy0] at hi; cases hi; exact g1
   ·exact kl_trans (asc_get ha (by omega) hi hy0) g1
  ·cases hi
 ·obtain ⟨i, hi⟩ := List.getElem?_of_mem hx
  rw [List.getElem?_drop] at hi
  by_cases e : i = 0
  ·subst e; rw [Nat.add_zero, hy1] at hi; cases hi; exact g2
  ·exact kl_asymm (kl_le_lt g2 (asc_get ha (by omega) hy1 hi))
theorem PgR.left {G : Nat} {X : Pg} (h : PgR G lo X) (v : Hv F X m sp) : PgR F lo (lpg X m sp id) where
 lv := h.lv
 wf := fun h => by cases h
 len := by rw [lpg_length (Nat.le_of_lt v.m2)]; exact v.mF
 asc := (asc_sub h.asc m).1
 low := fun x hx => h.low x (List.mem_of_mem_take hx)
 high := fun x hx => by
  show (false || kl x.1 sp) = true
  rw [v.lo x hx]; rfl
theorem PgR.right {G : Nat} {X : Pg} (h : PgR G lo X) (v : Hv F X m sp) : PgR F sp (rpg X m) where
 lv := h.lv
 wf := h.wf
 len := by rw [rpg_length]; exact v.rF
 asc := (asc_sub h.asc m).2
 low := v.hi
 high := fun x hx => h.high x (List.mem_of_mem_drop hx)
theorem Hv.lo_sp {G : Nat} {X : Pg} (h : PgR G lo X) (v : Hv F X m sp) : kl lo sp = true := by
 have h0 : 0 < (X.xs.take m).length := by have := v.m1; have := v.m2; rw [List.length_take]; omega
 have hx : (X.xs.take m)[0] ∈ X.xs.take m := List.getElem_mem h0
 exact kl_le_lt (h.low _ (List.mem_of_mem_take hx)) (v.lo _ hx)
theorem Hv.sp_hi {G : Nat} {X : Pg} (h : PgR G lo X) (v : Hv F X m sp) (hla : X.la = false) : kl sp X.hi = true := by
 have h0 : 0 < (X.xs.drop m).length := by have := v.m2; rw [List.length_drop]; omega
 have hx : (X.xs.drop m)[0] ∈ X.xs.drop m := List.getElem_mem h0
 have h1 := h.high _ (List.mem_of_mem_drop hx)
 unfold cov at h1; rw [hla, Bool.false_or] at h1
 exact kl_le_lt (v.hi _ hx) h1
theorem PgR.big {P : Pg} (h : PgR F lo P) : PgR (F + 1) lo P := ⟨h.lv, h.wf, Nat.le_succ_of_le h.len, h.asc, h.low, h.high⟩
theorem putR_head (n : Nat) (P : Pg) (r : List (Nat × Pg)) : ∃ P' r', putR F key ref id m sp ((n, P) :: r) = (n, P') :: r' := by
 unfold putR
 split
 ·split
  ·exact ⟨_, _, rfl⟩
  ·exact ⟨_, _, rfl⟩
 ·exact ⟨_, _, rfl⟩
def OkR (F : Nat) (key : ByteArray) (ref m : Nat) (sp : ByteArray) (R : List (Nat × Pg)) : Prop :=
 ∀ n P, atR key R = some (n, P) → has key P.xs = false ∧ (F < (npg P key ref).xs.length → Hv F (npg P key ref) m sp)
theorem OkR.here {n : Nat} {P : Pg} {r : List (Nat × Pg)} (h : OkR F key ref m sp ((n, P) :: r)) (hc : cov P key = true) : has key P.xs = false ∧ (F < (npg P key ref).xs.length → Hv F (npg P key ref) m sp) :=
 h n P (by unfold atR; rw [if_pos hc])
theorem OkR.tail {n : Nat} {P : Pg} {r : List (Nat × Pg)} (h : OkR F key ref m sp ((n, P) :: r)) (hc : ¬ cov P key = true) : OkR F key ref m sp r :=
 fun n' P' h' => h n' P' (by unfold atR; rw [if_neg hc]; exact h')
theorem RowR.put : ∀ {R : List (Nat × Pg)} {lo : ByteArray}, RowR F lo R → kl key lo = false → OkR F key ref m sp R → RowR F lo (putR F key ref id m sp R)
 | [], _, h, _, _ => h.elim
 | [(n, P)], lo, h, hk, ho => by
  have hc : cov P key = true := by unfold cov; rw [h.1]; rfl
  obtain ⟨hh, hv⟩ := ho.here hc
  have hm : PgR (F + 1) lo (npg P key ref) := h.2.2.big.more hk hc hh (by rw [npg_length]; have := h.2.2.len; omega)
  unfold putR; rw [if_pos hc]
  split
  ·rename_i hF
   have v := hv hF
   exact ⟨rfl, rfl, v.lo_sp hm, hm.left v, h.1, h.2.1, hm.right v⟩
  ·rename_i hF
   exact ⟨h.1, h.2.1, h.2.2.more hk hc hh (by omega)⟩
 | (n, P) :: (n2, P2) :: r, lo, h, hk, ho => by
  obtain ⟨hla, hrt, hlh, hp, ht⟩ := h
  by_cases hc : cov P key = true
  ·obtain ⟨hh, hv⟩ := ho.here hc
   have hm : PgR (F + 1) lo (npg P key ref) := hp.big.more hk hc hh (by rw [npg_length]; have := hp.len; omega)
   unfold putR; rw [if_pos hc]
   split
   ·rename_i hF
    have v := hv hF
    have hsh : kl sp (npg P key ref).hi = true := v.sp_hi hm hla
    exact ⟨rfl, rfl, v.lo_sp hm, hm.left v, hla, hrt, hsh, hm.right v, ht⟩
   ·rename_i hF
    exact ⟨hla, hrt, hlh, hp.more hk hc hh (by omega), ht⟩
  ·have h2 := RowR.put ht (cov_hi hc).2 (ho.tail hc)
   unfold putR; rw [if_neg hc]
   obtain ⟨P', r', e⟩ := putR_head (F := F) (key := key) (ref := ref) (id := id) (m := m) (sp := sp) n2 P2 r
   rw [e] at h2 ⊢
   exact ⟨hla, hrt, hlh, hp, h2⟩
theorem RowR.lows : ∀ {R : List (Nat × Pg)} {lo : ByteArray}, RowR F lo R → ∀ x ∈ allS R, kl x.1 lo = false
 | [], _, h, _, _ => h.elim
 | [(n, P)], lo, h, x, hx => by
  rw [allS_cons] at hx
  rcases List.mem_append.1 hx with hx | hx
  ·exact h.2.2.low x hx
  ·cases hx
 | (n, P) :: (n2, P2) :: r, lo, h, x, hx => by
  rw [allS_cons] at hx
  rcases List.mem_append.1 hx with hx | hx
  ·exact h.head.low x hx
  ·exact kl_asymm (kl_lt_le h.2.2.1 (h.tail.lows x hx))
theorem ins_left {e : Sl} : ∀ {a b : List Sl}, (∀ y ∈ b, kl y.1 e.1 = false) → ins e (a ++ b) = ins e a ++ b
 | [], [], _ => rfl
 | [], y :: b, h => by
  have : lt y e.1 = false := h y (by simp)
  show ins e (y :: b) = [e] ++ (y :: b)
  unfold ins; rw [this]; simp
 | x :: a, b, h => by
  show ins e (x :: (a ++ b)) = ins e (x :: a) ++ b
  unfold ins
  split
  ·rw [ins_left h]; rfl
  ·rfl
theorem ins_right {e : Sl} : ∀ {a b : List Sl}, (∀ x ∈ a, kl x.1 e.1 = true) → ins e (a ++ b) = a ++ ins e b
 | [], b, _ => rfl
 | x :: a, b, h => by
  have h1 : lt x e.1 = true := h x (by simp)
  have h2 := ins_right (e := e) (a := a) (b := b) fun y hy => h y (by simp [hy])
  show ins e (x :: (a ++ b)) = x :: (a ++ ins e b)
  rw [ins, if_pos h1, h2]
theorem allS_put : ∀ {R : List (Nat × Pg)} {lo : ByteArray}, RowR F lo R → allS (putR F key ref id m sp R) = ins (key, ref) (allS R)
 | [], _, h => h.elim
 | (n, P) :: r, lo, h => by
  by_cases hc : cov P key = true
  ·have hr : ∀ y ∈ allS r, kl y.1 (key, ref).1 = false := by
    cases r with
    | nil => intro y hy; cases hy
    | cons z r =>
     intro y hy
     have h1 : P.la = false := h.1
     unfold cov at hc; rw [h1, Bool.false_or] at hc
     exact kl_asymm (kl_lt_le hc (h.tail.lows y hy))
   unfold putR; rw [if_pos hc, allS_cons, ins_left hr]
   split
   ·rw [allS_cons, allS_cons, ← List.append_assoc]
    show ((ins (key, ref) P.xs).take m ++ (ins (key, ref) P.xs).drop m) ++ allS r = _
    rw [List.take_append_drop]
   ·rw [allS_cons]; rfl
  ·cases r with
   | nil => exact absurd (by unfold cov; rw [h.1]; rfl) hc
   | cons z r =>
    have hla : P.la = false := h.1
    have ha : ∀ x ∈ P.xs, kl x.1 (key, ref).1 = true := fun x hx => by
     have h1 := h.head.high x hx
     unfold cov at h1; rw [hla, Bool.false_or] at h1
     exact kl_lt_le h1 (cov_hi hc).2
    unfold putR; rw [if_neg hc, allS_cons, allS_cons, ins_right ha, allS_put h.tail]
theorem RowR.mem_at : ∀ {R : List (Nat × Pg)} {lo : ByteArray}, RowR F lo R → ∀ x ∈ allS R, ∀ n P, atR x.1 R = some (n, P) → x ∈ P.xs
 | [], _, h, _, _, _, _, _ => h.elim
 | (n, P) :: r, lo, h, x, hx, n', P', he => by
  rw [allS_cons] at hx
  unfold atR at he
  split at he
  ·rename_i hc
   cases he
   rcases List.mem_append.1 hx with hx | hx
   ·exact hx
   ·cases r with
    | nil => cases hx
    | cons z r =>
     have h1 : P.la = false := h.1
     unfold cov at hc; rw [h1, Bool.false_or] at hc
     have h2 := h.tail.lows x hx
     rw [hc] at h2; cases h2
  ·rename_i hc
   rcases List.mem_append.1 hx with hx | hx
   ·exact absurd (h.head.high x hx) hc
   ·cases r with
    | nil => cases hx
    | cons z r => exact h.tail.mem_at x hx n' P' he
theorem atR_mem : ∀ {R : List (Nat × Pg)} {x : Nat × Pg}, atR key R = some x → x ∈ R
 | [], _, h => by cases h
 | (n, P) :: r, x, h => by
  unfold atR at h
  split at h
  ·cases h; simp
  ·exact List.mem_cons_of_mem _ (atR_mem h)
theorem mem_allS {R : List (Nat × Pg)} {n : Nat} {P : Pg} (h : (n, P) ∈ R) {x : Sl} (hx : x ∈ P.xs) : x ∈ allS R := List.mem_flatMap.2 ⟨(n, P), h, hx⟩
theorem putR_mem : ∀ {R : List (Nat × Pg)} {n0 : Nat} {P0 : Pg}, atR key R = some (n0, P0) → (R.map Prod.fst).Nodup → ∀ x ∈ putR F key ref id m sp R,
  (x ∈ R ∧ x.1 ≠ n0) ∨ (F < (npg P0 key ref).xs.length ∧ (x = (n0, lpg (npg P0 key ref) m sp id) ∨ x = (id, rpg (npg P0 key ref) m))) ∨ (¬ F < (npg P0 key ref).xs.length ∧ x = (n0, npg P0 key ref))
 | [], _, _, h, _, _, _ => by cases h
 | (n, P) :: r, n0, P0, h, hn, x, hx => by
  rw [List.map_cons, List.nodup_cons] at hn
  unfold atR at h; unfold putR at hx
  split at h
  ·rename_i hc
   cases h
   rw [if_pos hc] at hx
   have hr : x ∈ r → (x ∈ (n, P) :: r ∧ x.1 ≠ n) := fun hx => ⟨List.mem_cons_of_mem _ hx, fun e => hn.1 (e ▸ List.mem_map.2 ⟨x, hx, rfl⟩)⟩
   split at hx
   ·rename_i hF
    rcases List.mem_cons.1 hx with hx | hx
    ·exact .inr (.inl ⟨hF, .inl hx⟩)
    ·rcases List.mem_cons.1 hx with hx | hx
     ·exact .inr (.inl ⟨hF, .inr hx⟩)
     ·exact .inl (hr hx)
   ·rename_i hF
    rcases List.mem_cons.1 hx with hx | hx
    ·exact .inr (.inr ⟨hF, hx⟩)
    ·exact .inl (hr hx)
  ·rename_i hc
   rw [if_neg hc] at hx
   rcases List.mem_cons.1 hx with hx | hx
   ·subst hx
    exact .inl ⟨List.mem_cons_self .., fun e => hn.1 (e ▸ List.mem_map.2 ⟨(n0, P0), atR_mem h, rfl⟩)⟩
   ·rcases putR_mem h hn.2 x hx with ⟨h1, h2⟩ | h1
    ·exact .inl ⟨List.mem_cons_of_mem _ h1, h2⟩
    ·exact .inr h1
theorem putR_fst : ∀ {R : List (Nat × Pg)}, ∀ x ∈ (putR F key ref id m sp R).map Prod.fst, x ∈ R.map Prod.fst ∨ x = id
 | [], x, h => .inl h
 | (n, P) :: r, x, h => by
  unfold putR at h
  split at h
  ·split at h
   ·simp only [List.map_cons, List.mem_cons] at h ⊢
    rcases h with h | h | h
    ·exact .inl (.inl h)
    ·exact .inr h
    ·exact .inl (.inr h)
   ·exact .inl h
  ·simp only [List.map_cons, List.mem_cons] at h ⊢
   rcases h with h | h
   ·exact .inl (.inl h)
   ·rcases putR_fst x h with h | h
    ·exact .inl (.inr h)
    ·exact .inr h
theorem putR_nodup : ∀ {R : List (Nat × Pg)}, (R.map Prod.fst).Nodup → id ∉ R.map Prod.fst → ((putR F key ref id m sp R).map Prod.fst).Nodup
 | [], h, _ => h
 | (n, P) :: r, h, hi => by
  have h' := List.nodup_cons.1 h
  simp only [List.map_cons, List.mem_cons, not_or] at hi
  unfold putR
  split
  ·split
   ·show (n :: id :: r.map Prod.fst).Nodup
    exact List.nodup_cons.2 ⟨by simp only [List.mem_cons, not_or]; exact ⟨fun e => hi.1 e.symm, h'.1⟩, List.nodup_cons.2 ⟨hi.2, h'.2⟩⟩
   ·exact h
  ·show (n :: (putR F key ref id m sp r).map Prod.fst).Nodup
   refine List.nodup_cons.2 ⟨fun hx => ?_, putR_nodup h'.2 hi.2⟩
   rcases putR_fst n hx with hx | hx
   ·exact h'.1 hx
   ·exact hi.1 hx.symm
theorem putR_len : ∀ {R : List (Nat × Pg)} {n0 : Nat} {P0 : Pg}, atR key R = some (n0, P0) → (putR F key ref id m sp R).length = if F < (npg P0 key ref).xs.length then R.length + 1 else R.length
 | [], _, _, h => by cases h
 | (n, P) :: r, n0, P0, h => by
  unfold atR at h; unfold putR
  split at h
  ·rename_i hc
   cases h
   rw [if_pos hc]
   split <;> rfl
  ·rename_i hc
   rw [if_neg hc, List.length_cons, putR_len h]
   split <;> simp
theorem ins_perm (e : Sl) : ∀ xs : List Sl, (ins e xs).Perm (e :: xs)
 | [] => List.Perm.refl _
 | x :: r => by
  unfold ins
  split
  ·exact (List.Perm.cons x (ins_perm e r)).trans (List.Perm.swap e x r)
  ·exact List.Perm.refl _
end
end
end Go.Proofs.YtjnodgebpklaoaaGreat
