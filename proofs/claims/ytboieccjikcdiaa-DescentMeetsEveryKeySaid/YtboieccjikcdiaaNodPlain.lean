/-
  Plain facts about a page that lies in the cells of a memory: its cells, what a reader has read after so many of them, the stores that change a page to another one. No program is spoken of. Condition: none.
-/
import Derived.Test.YtboieccjikcdiaaPagPlain
import Derived.Test.YtboieccjikcdiaaLayPlain
namespace Go.Proofs.Ytboieccjikcdiaa
open Go.RowKit Go.Deep Plain
set_option linter.unusedVariables false

/-- A page. -/
structure Pg where
  lv : Nat
  hi : ByteArray
  la : Bool
  rt : Nat
  xs : List Sl

/-- The page of an empty leaf that is the last one. -/
def pg0 : Pg := ⟨0, ⟨#[]⟩, true, 0, []⟩

/-- The address of the cell of a node that is read as number r (Head, High, Right, the slots). -/
def adr (N F a id : Int) (r : Nat) : Int := if r = 0 then nodeAt N F a id 1 else if r = 1 then nodeAt N F a id 2 else if r = 2 then nodeAt N F a id 3 else slotAt N F a id ((r : Int) - 3)

def hiCel (hi : ByteArray) (la : Bool) : Cel := if la = true then (0, ⟨#[]⟩, 1) else (0, hi, 0)
def slCel (x : Sl) : Cel := ((x.2 : Int), x.1, 0)
/-- What lies in the cell of a page that is read as number r. -/
def pc (P : Pg) (r : Nat) : Cel := if r = 0 then ((P.xs.length : Int), ⟨#[]⟩, (P.lv : Int)) else if r = 1 then hiCel P.hi P.la else if r = 2 then ((P.rt : Int), ⟨#[]⟩, 0) else
  match P.xs[r - 3]? with
  | some x => slCel x
  | none => cel0

/-- A store: an address and what is to be stored there. -/
abbrev Sto := Int × Cel
/-- The stores of a page. -/
def pst (ad : Nat → Int) (P : Pg) : List Sto := (List.range (P.xs.length + 3)).map fun r => (ad r, pc P r)
theorem pst_length (ad : Nat → Int) (P : Pg) : (pst ad P).length = P.xs.length + 3 := by unfold pst; simp
theorem pst_at (ad : Nat → Int) (P : Pg) (r : Nat) (h : r < P.xs.length + 3) : (pst ad P)[r]? = some (ad r, pc P r) := by
  unfold pst; rw [List.getElem?_map, List.getElem?_range h]; rfl

/-- Is a store of a list another one than that at the same place of the list before (or is there none)? -/
def news (fr : List Sto) (s : Sto) (i : Nat) : Bool := match fr[i]? with
  | some t => !(decide (s = t))
  | none => true
/-- The stores of the second list that are others than those of the first, of the first j. -/
def chgTo (fr to : List Sto) : Nat → List Sto
  | 0 => []
  | j + 1 => match to[j]? with
    | some s => if news fr s j = true then chgTo fr to j ++ [s] else chgTo fr to j
    | none => chgTo fr to j
def chg (fr to : List Sto) : List Sto := chgTo fr to to.length
theorem chgTo_step {fr to : List Sto} {j : Nat} {s : Sto} (h : to[j]? = some s) : chgTo fr to (j + 1) = if news fr s j = true then chgTo fr to j ++ [s] else chgTo fr to j := by
  simp only [chgTo, h]
theorem chgTo_length (fr to : List Sto) : ∀ j, (chgTo fr to j).length ≤ j
  | 0 => Nat.le_refl _
  | j + 1 => by
    have := chgTo_length fr to j
    simp only [chgTo]
    split
    · split
      · simp; omega
      · omega
    · omega
theorem chgTo_mem {fr to : List Sto} : ∀ {j : Nat} {s : Sto}, s ∈ chgTo fr to j → ∃ i, i < j ∧ to[i]? = some s
  | 0, s, h => by simp [chgTo] at h
  | j + 1, s, h => by
    simp only [chgTo] at h
    cases ht : to[j]? with
    | none =>
      simp only [ht] at h
      obtain ⟨i, hi, e⟩ := chgTo_mem h
      exact ⟨i, by omega, e⟩
    | some t =>
      simp only [ht] at h
      split at h
      · rcases List.mem_append.1 h with h | h
        · obtain ⟨i, hi, e⟩ := chgTo_mem h
          exact ⟨i, by omega, e⟩
        · simp at h; subst h; exact ⟨j, by omega, ht⟩
      · obtain ⟨i, hi, e⟩ := chgTo_mem h
        exact ⟨i, by omega, e⟩
theorem chg_length (fr to : List Sto) : (chg fr to).length ≤ to.length := chgTo_length _ _ _

/-- The cells behind stores. -/
def app (l : List Cel) (ss : List Sto) : List Cel := ss.foldl (fun l s => putAt l s.1 s.2) l
theorem app_nil (l : List Cel) : app l [] = l := rfl
theorem app_snoc (l : List Cel) (ss : List Sto) (s : Sto) : app l (ss ++ [s]) = putAt (app l ss) s.1 s.2 := by unfold app; rw [List.foldl_append]; rfl
theorem app_append (l : List Cel) (a b : List Sto) : app l (a ++ b) = app (app l a) b := by unfold app; rw [List.foldl_append]
theorem app_length (ss : List Sto) : ∀ l : List Cel, (app l ss).length = l.length := by
  induction ss with
  | nil => intro l; rfl
  | cons s r ih => intro l; show (app (putAt l s.1 s.2) r).length = _; rw [ih, putAt_length]
theorem app_take {l : List Cel} {ss : List Sto} {j : Nat} {s : Sto} (h : ss[j]? = some s) : app l (ss.take (j + 1)) = putAt (app l (ss.take j)) s.1 s.2 := by
  rw [List.take_add_one, h]; exact app_snoc _ _ _

theorem cellAt_putAt (l : List Cel) (i j : Int) (c : Cel) : cellAt (putAt l i c) j = if i = j ∧ 0 ≤ i ∧ i < l.length then c else cellAt l j := by
  unfold putAt cellAt
  by_cases hi : 0 ≤ i
  · rw [if_pos hi]
    by_cases hj : 0 ≤ j
    · rw [if_pos hj, if_pos hj, List.getD_eq_getElem?_getD, List.getD_eq_getElem?_getD]
      by_cases hij : i = j
      · subst hij
        by_cases hl : i < l.length
        · rw [if_pos ⟨rfl, hi, hl⟩, List.getElem?_set_self (by omega)]; rfl
        · rw [if_neg (by omega), List.set_eq_of_length_le (by omega)]
      · rw [if_neg (fun h => hij h.1), List.getElem?_set_ne (by omega)]
    · have hn : ¬ (i = j ∧ 0 ≤ i ∧ i < l.length) := by omega
      rw [if_neg hj, if_neg hj, if_neg hn]
  · have hn : ¬ (i = j ∧ 0 ≤ i ∧ i < l.length) := by omega
    rw [if_neg hi, if_neg hn]
theorem cellAt_other {l : List Cel} {i j : Int} (h : i ≠ j) (c : Cel) : cellAt (putAt l i c) j = cellAt l j := by rw [cellAt_putAt, if_neg (fun e => h e.1)]
theorem cellAt_same {l : List Cel} {i : Int} (h : 0 ≤ i ∧ i < l.length) (c : Cel) : cellAt (putAt l i c) i = c := by rw [cellAt_putAt, if_pos ⟨rfl, h⟩]
theorem app_other {j : Int} (ss : List Sto) : ∀ l : List Cel, (∀ s ∈ ss, s.1 ≠ j) → cellAt (app l ss) j = cellAt l j := by
  induction ss with
  | nil => intro l _; rfl
  | cons s r ih =>
    intro l h
    show cellAt (app (putAt l s.1 s.2) r) j = _
    rw [ih _ (fun t ht => h t (List.mem_cons_of_mem _ ht)), cellAt_other (h s (List.mem_cons_self ..))]

/-- The addresses of a node's cells (its latch at la0): all there, and all different. -/
structure Ads (F : Nat) (la0 : Int) (ad : Nat → Int) (n : Nat) : Prop where
  lat : 0 ≤ la0 ∧ la0 < n
  in' : ∀ r, r < F + 3 → 0 ≤ ad r ∧ ad r < n
  ne : ∀ r, r < F + 3 → ad r ≠ la0
  inj : ∀ r t, r < F + 3 → t < F + 3 → ad r = ad t → r = t

/-- The page lies in the cells. -/
def Holds (ad : Nat → Int) (l : List Cel) (P : Pg) : Prop := ∀ r, r < P.xs.length + 3 → cellAt l (ad r) = pc P r

/-- Behind the stores of what has changed, the new page lies where the elder one lay; on the way there every cell of the new page up to number j is right, the others are the elder ones. -/
theorem chgTo_holds {F : Nat} {la0 : Int} {ad : Nat → Int} {n : Nat} (ha : Ads F la0 ad n) {l : List Cel} (hn : l.length = n) {P Q : Pg} (hP : Holds ad l P) (hF : P.xs.length ≤ F) (hQ : Q.xs.length ≤ F) :
    ∀ j, j ≤ Q.xs.length + 3 → (∀ r, r < j → cellAt (app l (chgTo (pst ad P) (pst ad Q) j)) (ad r) = pc Q r) ∧ (∀ r, j ≤ r → r < F + 3 → cellAt (app l (chgTo (pst ad P) (pst ad Q) j)) (ad r) = cellAt l (ad r))
  | 0, _ => ⟨fun r h => by omega, fun r _ _ => rfl⟩
  | j + 1, hj => by
    obtain ⟨h1, h2⟩ := chgTo_holds ha hn hP hF hQ j (by omega)
    have hs := pst_at ad Q j (by omega)
    rw [chgTo_step hs]
    have hin := ha.in' j (by omega)
    by_cases hnw : news (pst ad P) (ad j, pc Q j) j = true
    · rw [if_pos hnw, app_snoc]
      refine ⟨fun r hr => ?_, fun r hr hrF => ?_⟩
      · by_cases hrj : r = j
        · subst hrj
          exact cellAt_same ⟨hin.1, by rw [app_length]; omega⟩ _
        · rw [cellAt_other (fun e => hrj (ha.inj r j (by omega) (by omega) e.symm))]
          exact h1 r (by omega)
      · rw [cellAt_other (fun e => by have := ha.inj r j (by omega) (by omega) e.symm; omega)]
        exact h2 r (by omega) hrF
    · rw [if_neg hnw]
      refine ⟨fun r hr => ?_, fun r hr hrF => h2 r (by omega) hrF⟩
      by_cases hrj : r = j
      · subst hrj
        rw [h2 r (Nat.le_refl _) (by omega)]
        unfold news at hnw
        by_cases hrP : r < P.xs.length + 3
        · rw [pst_at ad P r hrP] at hnw
          simp at hnw
          rw [hP r hrP]; exact hnw.symm
        · rw [List.getElem?_eq_none (by rw [pst_length]; omega)] at hnw
          simp at hnw
      · exact h1 r (by omega)
theorem chg_holds {F : Nat} {la0 : Int} {ad : Nat → Int} {n : Nat} (ha : Ads F la0 ad n) {l : List Cel} (hn : l.length = n) {P Q : Pg} (hP : Holds ad l P) (hF : P.xs.length ≤ F) (hQ : Q.xs.length ≤ F) : Holds ad (app l (chg (pst ad P) (pst ad Q))) Q := by
  have := (chgTo_holds ha hn hP hF hQ (Q.xs.length + 3) (Nat.le_refl _)).1
  unfold chg; rw [pst_length]; exact this
theorem pst_addr {ad : Nat → Int} {P : Pg} {s : Sto} (h : s ∈ pst ad P) : ∃ r, r < P.xs.length + 3 ∧ s = (ad r, pc P r) := by
  unfold pst at h
  obtain ⟨r, hr, rfl⟩ := List.mem_map.1 h
  exact ⟨r, List.mem_range.1 hr, rfl⟩
theorem chg_addr {fr : List Sto} {ad : Nat → Int} {Q : Pg} {s : Sto} (h : s ∈ chg fr (pst ad Q)) : ∃ r, r < Q.xs.length + 3 ∧ s = (ad r, pc Q r) := by
  obtain ⟨i, _, e⟩ := chgTo_mem h
  exact pst_addr (List.mem_of_getElem? e)
/-- Behind the stores of a page it lies there. -/
theorem pst_holds {F : Nat} {la0 : Int} {ad : Nat → Int} {n : Nat} (ha : Ads F la0 ad n) {l : List Cel} (hn : l.length = n) {Q : Pg} (hQ : Q.xs.length ≤ F) : ∀ j, j ≤ Q.xs.length + 3 → ∀ r, r < j → cellAt (app l ((pst ad Q).take j)) (ad r) = pc Q r
  | 0, _, r, h => by omega
  | j + 1, hj, r, hr => by
    rw [app_take (pst_at ad Q j (by omega))]
    have hin := ha.in' j (by omega)
    by_cases hrj : r = j
    · subst hrj
      exact cellAt_same ⟨hin.1, by rw [app_length]; omega⟩ _
    · rw [cellAt_other (fun e => hrj (ha.inj r j (by omega) (by omega) e.symm))]
      exact pst_holds ha hn hQ j (by omega) r (by omega)

/-- What a reader has read: how many cells, how many there are, and the parts of the page. -/
structure Cs where
  rd : Nat
  en : Nat
  lv : Nat
  hi : ByteArray
  la : Bool
  rt : Nat
  xs : List Sl
def cs0 : Cs := ⟨0, 0, 0, ⟨#[]⟩, false, 0, []⟩
def Cs.pg (s : Cs) : Pg := ⟨s.lv, s.hi, s.la, s.rt, s.xs⟩
/-- The next cell is taken. -/
def tk (F : Nat) (s : Cs) (N : Nat) (K : ByteArray) (M : Nat) : Cs :=
  if s.rd = 0 then { s with rd := 1, en := 3 + min N F, lv := M }
  else if s.rd = 1 then { s with rd := 2, hi := K, la := M == 1 }
  else if s.rd = 2 then { s with rd := 3, rt := N }
  else { s with rd := s.rd + 1, xs := s.xs ++ [(K, N)] }
/-- What is known of a reader on its way, whatever it has read. -/
structure Oks (F : Nat) (s : Cs) : Prop where
  zero : s.rd = 0 → s = cs0
  en : 0 < s.rd → 3 ≤ s.en ∧ s.en ≤ F + 3 ∧ s.rd ≤ s.en
  xs : s.xs.length = s.rd - 3
theorem oks0 (F : Nat) : Oks F cs0 := ⟨fun _ => rfl, fun h => by simp [cs0] at h, rfl⟩
theorem Oks.lt {F : Nat} {s : Cs} (h : Oks F s) : s.rd ≤ F + 3 := by
  by_cases h0 : s.rd = 0
  · omega
  · have := h.en (by omega); omega
theorem tk_rd (F : Nat) (s : Cs) (N : Nat) (K : ByteArray) (M : Nat) : (tk F s N K M).rd = s.rd + 1 := by
  unfold tk; split
  · simp; omega
  · split
    · simp; omega
    · split
      · simp; omega
      · rfl
theorem tk_en (F : Nat) (s : Cs) (N : Nat) (K : ByteArray) (M : Nat) (h : 0 < s.rd) : (tk F s N K M).en = s.en := by
  unfold tk; rw [if_neg (by omega)]; split
  · rfl
  · split
    · rfl
    · rfl
theorem tk_oks {F : Nat} {s : Cs} (h : Oks F s) (hlt : s.rd = 0 ∨ s.rd < s.en) (N : Nat) (K : ByteArray) (M : Nat) : Oks F (tk F s N K M) := by
  have hx := h.xs
  refine ⟨fun e => by rw [tk_rd] at e; omega, fun _ => ?_, ?_⟩
  · rw [tk_rd]
    by_cases h0 : s.rd = 0
    · have : (tk F s N K M).en = 3 + min N F := by unfold tk; rw [if_pos h0]
      rw [this]; omega
    · rw [tk_en F s N K M (by omega)]
      have := h.en (by omega); omega
  · rw [tk_rd]
    unfold tk; split
    · simp only; omega
    · split
      · simp only; omega
      · split
        · simp only; omega
        · simp only [List.length_append, List.length_cons, List.length_nil]; omega

/-- After r cells of a page. -/
def got (P : Pg) (r : Nat) : Cs := ⟨r, if r = 0 then 0 else P.xs.length + 3, if r = 0 then 0 else P.lv, if r < 2 then ⟨#[]⟩ else P.hi, if r < 2 then false else P.la, if r < 3 then 0 else P.rt, P.xs.take (r - 3)⟩
/-- A page without a high key has none. -/
def Wf (P : Pg) : Prop := P.la = true → P.hi = ⟨#[]⟩
theorem got_zero (P : Pg) : got P 0 = cs0 := by unfold got cs0; simp
theorem got_oks {F : Nat} {P : Pg} (hF : P.xs.length ≤ F) {r : Nat} (hr : r ≤ P.xs.length + 3) : Oks F (got P r) := by
  refine ⟨fun e => ?_, fun h => ?_, ?_⟩
  · have : r = 0 := e
    subst this; exact got_zero P
  · have h' : 0 < r := h
    have e : (got P r).en = P.xs.length + 3 := by unfold got; simp; omega
    rw [e]; show _ ∧ _ ∧ r ≤ _; omega
  · show (P.xs.take (r - 3)).length = r - 3
    rw [List.length_take]; omega
theorem got_end (P : Pg) : (got P (P.xs.length + 3)).pg = P := by
  unfold got Cs.pg
  simp only [Nat.add_sub_cancel, List.take_length]
  rw [if_neg (by omega), if_neg (by omega), if_neg (by omega), if_neg (by omega)]
/-- A cell as natural numbers. -/
def NatCell (c : Cel) : Prop := ∃ (N M : Nat) (K : ByteArray), c = ((N : Int), K, (M : Int)) ∧ N < 18446744073709551616 ∧ M < 9223372036854775808
theorem tk_got {F : Nat} {P : Pg} (hw : Wf P) (hF : P.xs.length ≤ F) {r : Nat} (hr : r < P.xs.length + 3) {N M : Nat} {K : ByteArray} (hc : pc P r = ((N : Int), K, (M : Int))) : tk F (got P r) N K M = got P (r + 1) := by
  unfold pc at hc
  rcases (by omega : r = 0 ∨ r = 1 ∨ r = 2 ∨ 3 ≤ r) with rfl | rfl | rfl | h3
  · rw [if_pos rfl] at hc
    obtain ⟨h1, h2, h3⟩ : (P.xs.length : Int) = N ∧ (⟨#[]⟩ : ByteArray) = K ∧ (P.lv : Int) = M := by simpa using hc
    have e1 : P.xs.length = N := by omega
    have e2 : P.lv = M := by omega
    simp only [tk, got]
    simp [e2]; omega
  · rw [if_neg (by omega), if_pos rfl] at hc
    unfold hiCel at hc
    have e : P.hi = K ∧ (M == 1) = P.la := by
      cases hla : P.la
      · rw [hla] at hc
        obtain ⟨_, h2, h3⟩ : (0 : Int) = N ∧ P.hi = K ∧ (0 : Int) = M := by simpa using hc
        have : M = 0 := by omega
        exact ⟨h2, by rw [this]; rfl⟩
      · rw [hla] at hc
        obtain ⟨_, h2, h3⟩ : (0 : Int) = N ∧ (⟨#[]⟩ : ByteArray) = K ∧ (1 : Int) = M := by simpa using hc
        have : M = 1 := by omega
        exact ⟨by rw [hw hla]; exact h2, by rw [this]; rfl⟩
    simp only [tk, got]
    simp [e.1, e.2]
  · rw [if_neg (by omega), if_neg (by omega), if_pos rfl] at hc
    obtain ⟨h1, _⟩ : (P.rt : Int) = N ∧ _ := by simpa using hc
    have e1 : P.rt = N := by omega
    simp only [tk, got]
    simp [e1]
  · rw [if_neg (by omega), if_neg (by omega), if_neg (by omega)] at hc
    have hx := List.getElem?_eq_getElem (l := P.xs) (i := r - 3) (by omega)
    rw [hx] at hc
    obtain ⟨h1, h2, _⟩ : ((P.xs[r - 3].2 : Int) = N) ∧ P.xs[r - 3].1 = K ∧ _ := by simpa [slCel] using hc
    have e1 : P.xs[r - 3].2 = N := by omega
    have e2 : P.xs.take (r + 1 - 3) = P.xs.take (r - 3) ++ [(K, N)] := by
      rw [show r + 1 - 3 = (r - 3) + 1 by omega, List.take_add_one, hx, ← h2, ← e1]; rfl
    unfold tk
    have hrd : (got P r).rd = r := rfl
    rw [hrd, if_neg (by omega), if_neg (by omega), if_neg (by omega)]
    unfold got
    simp only
    rw [e2, if_neg (by omega), if_neg (by omega), if_neg (by omega), if_neg (by omega), if_neg (by omega), if_neg (by omega), if_neg (by omega), if_neg (by omega)]
    simp; omega
theorem got_last {P : Pg} {r : Nat} (hr : r < P.xs.length + 3) : ((got P (r + 1)).rd == (got P (r + 1)).en) = (r + 1 == P.xs.length + 3) := by
  show (r + 1 == if r + 1 = 0 then 0 else P.xs.length + 3) = _
  rw [if_neg (by omega)]

/-- All cells are natural numbers. -/
def Nats (l : List Cel) : Prop := ∀ i : Int, NatCell (cellAt l i)
theorem Nats.put {l : List Cel} (h : Nats l) (i : Int) {c : Cel} (hc : NatCell c) : Nats (putAt l i c) := fun j => by
  rw [cellAt_putAt]; split
  · exact hc
  · exact h j
theorem Nats.app {ss : List Sto} : ∀ {l : List Cel}, Nats l → (∀ s ∈ ss, NatCell s.2) → Nats (app l ss) := by
  induction ss with
  | nil => intro l h _; exact h
  | cons s r ih => intro l h hs; exact ih (h.put s.1 (hs s (List.mem_cons_self ..))) (fun t ht => hs t (List.mem_cons_of_mem _ ht))
theorem nat0 : NatCell cel0 := ⟨0, 0, ⟨#[]⟩, rfl, by omega, by omega⟩
theorem nats_zero (n : Nat) : Nats (List.replicate n cel0) := fun i => by
  unfold cellAt; split
  · rw [List.getD_eq_getElem?_getD, List.getElem?_replicate]; split <;> exact nat0
  · exact nat0
/-- A page whose numbers fit their cells. -/
structure Fits (P : Pg) : Prop where
  lv : P.lv < 9223372036854775808
  rt : P.rt < 18446744073709551616
  xs : ∀ x ∈ P.xs, x.2 < 18446744073709551616
  len : P.xs.length < 9223372036854775808
theorem fits0 : Fits pg0 := ⟨by simp [pg0], by simp [pg0], fun x h => by simp [pg0] at h, by simp [pg0]⟩
theorem Fits.nat {P : Pg} (h : Fits P) (r : Nat) : NatCell (pc P r) := by
  unfold pc
  split
  · exact ⟨_, _, _, rfl, by have := h.len; omega, h.lv⟩
  · split
    · unfold hiCel; split
      · exact ⟨0, 1, _, rfl, by omega, by omega⟩
      · exact ⟨0, 0, _, rfl, by omega, by omega⟩
    · split
      · exact ⟨P.rt, 0, _, rfl, h.rt, by omega⟩
      · split
        · rename_i x hx
          exact ⟨x.2, 0, x.1, rfl, h.xs x (List.mem_of_getElem? hx), by omega⟩
        · exact nat0
theorem Fits.pstN {P : Pg} (h : Fits P) (ad : Nat → Int) : ∀ s ∈ pst ad P, NatCell s.2 := fun s hs => by
  obtain ⟨r, _, rfl⟩ := pst_addr hs; exact h.nat r
theorem Fits.chgN {P : Pg} (h : Fits P) (fr : List Sto) (ad : Nat → Int) : ∀ s ∈ chg fr (pst ad P), NatCell s.2 := fun s hs => by
  obtain ⟨r, _, rfl⟩ := chg_addr hs; exact h.nat r

/-- The cells of stores, one behind the other. -/
def flat4 : List Sto → List Value
  | [] => []
  | s :: r => .int .i64 s.1 :: .int .u64 s.2.1 :: .string s.2.2.1 :: .int .u64 s.2.2.2 :: flat4 r
theorem flat4_length : ∀ l : List Sto, (flat4 l).length = l.length * 4
  | [] => rfl
  | c :: r => by simp [flat4, flat4_length r]; omega
theorem flat4_append : ∀ a b : List Sto, flat4 (a ++ b) = flat4 a ++ flat4 b
  | [], _ => rfl
  | c :: r, b => by simp [flat4, flat4_append r b]
theorem flat4_at : ∀ (l : List Sto) (i : Nat) (s : Sto), l[i]? = some s → (flat4 l)[i * 4]? = some (.int .i64 s.1) ∧ (flat4 l)[i * 4 + 1]? = some (.int .u64 s.2.1) ∧ (flat4 l)[i * 4 + 2]? = some (.string s.2.2.1) ∧ (flat4 l)[i * 4 + 3]? = some (.int .u64 s.2.2.2)
  | [], i, c, h => by simp at h
  | d :: r, 0, c, h => by
    simp at h; subst h; simp [flat4]
  | d :: r, i + 1, c, h => by
    have := flat4_at r i c (by simpa using h)
    have e : (i + 1) * 4 = i * 4 + 1 + 1 + 1 + 1 := by omega
    rw [e]
    simp only [flat4, List.getElem?_cons_succ]
    exact this
theorem flat4_one : ∀ (l : List Sto), ∀ u ∈ flat4 l, u.oneCell' = true
  | [], u, h => by simp [flat4] at h
  | c :: r, u, h => by
    simp only [flat4, List.mem_cons] at h
    rcases h with rfl | rfl | rfl | rfl | h
    · rfl
    · rfl
    · rfl
    · rfl
    · exact flat4_one r u h
end Go.Proofs.Ytboieccjikcdiaa
