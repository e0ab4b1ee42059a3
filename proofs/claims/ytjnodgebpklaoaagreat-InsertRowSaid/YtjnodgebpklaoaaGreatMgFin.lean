/-
 Where an Insert into a leaf of a row ends: how many steps it takes at most, and what lies in the memory behind it. Condition: none beside the Insert's own.
-/
import Derived.Test.YtjnodgebpklaoaaGreatMgTwo
import Derived.Test.YtjnodgebpklaoaaGreatTgKeys
namespace Go.Proofs.YtjnodgebpklaoaaGreat
section
open Go.RowKit Go.Deep Plain
set_option linter.unusedVariables false
variable {F : Nat} {fb fd : Int} {id wd : Nat} {P X : Pg} {m : Nat} {sp : ByteArray} {lim Nv : Nat} {l0 l : List Cel} {s : Is} {d : Nat}
theorem Ipl.mostW (O : Iw F fb fd id wd P X m sp lim Nv l0) (htw : s.two = decide (F < X.xs.length)) (I : Ipl F (lim : Int) id wd P X m sp lim Nv l0 ⟨#[]⟩ 0 s l d) : d ≤ X.xs.length + 11 := by
 by_cases hf : F < X.xs.length
 ·exact Ipl.most (O.full hf) I
 ·rw [decide_eq_false hf] at htw
  have hw0 := wrsN_len (F := F) (N := (lim : Int)) (id := id) (wd := wd) P X
  cases I with
  | tak0 hv => cases htw
  | none hv => cases htw
  | tak1 hv => cases htw
  | fil hv hj => cases htw
  | wri1 hv hj => cases htw
  | wri0 hj => omega
  | don1 hv => omega
  | don0 => omega
  | ful hv => omega
theorem ipl_endW (hd : d = 0) (htw : s.two = decide (F < X.xs.length)) (hv : Nv < lim) (I : Ipl F (lim : Int) id wd P X m sp lim Nv l0 ⟨#[]⟩ 0 s l d) :
  (¬ F < X.xs.length ∧ s = .don none ∧ l = app l0 (wrsN F (lim : Int) id wd P X)) ∨
  (F < X.xs.length ∧ s = .don (some (Nv + 1)) ∧ l = app (app (memT l0 Nv ⟨#[]⟩ 0) (frsN F (lim : Int) X m (Nv + 1))) (wrsN F (lim : Int) id wd P (lpg X m sp (Nv + 1)))) := by
 cases I with
 | tak0 hv2 => omega
 | none hv2 => omega
 | tak1 hv2 => omega
 | fil hv2 hj => omega
 | wri1 hv2 hj => omega
 | wri0 hj => omega
 | don1 hv2 =>
  refine .inr ⟨?_, rfl, rfl⟩
  have h1 : true = decide (F < X.xs.length) := htw
  exact of_decide_eq_true h1.symm
 | don0 =>
  refine .inl ⟨?_, rfl, rfl⟩
  have h1 : false = decide (F < X.xs.length) := htw
  exact of_decide_eq_false h1.symm
 | ful hv2 => omega
theorem strv_snoc (ks : List ByteArray) (k : ByteArray) : strv ks ++ [.string k] = strv (ks ++ [k]) := by unfold strv; rw [List.map_append]; rfl
end
end Go.Proofs.YtjnodgebpklaoaaGreat
namespace Go.Proofs.YtjnodgebpklaoaaGreat
section
open Go.RowKit Go.Deep Plain
set_option linter.unusedVariables false
theorem find_pageR (F : Nat) (h6 : F ≤ 6) (fb fd : Int) (Z : Nat → Prop) (x : Nat) (key : ByteArray) (lvl : Nat) (n wd : Nat) (Y : Pg) (hY : Y.xs.length ≤ 1000) (w : World) (h : FAt Z w F fb fd x key lvl (.arr n ⟨3, wd, got Y (Y.xs.length + 3)⟩)) :
  Calls Tryz.prog 26 #[.pointer (some ⟨x, 0, none⟩)] w fun e w' => ∃ (A : Option Addr) (c : Nat), e = .returned (.tuple #[.int .u64 (n : Int), .agg #[.int .i64 (Y.lv : Int), .slice A Y.xs.length c, .string Y.hi, .bool Y.la, .int .u64 (Y.rt : Int)]]) ∧ Rs w' A c Y.xs ∧ (∀ a, A = some a → w.heap.size ≤ a.block) ∧ Kept (fun _ => False) w w' := by
 obtain ⟨e1, e2, e3, e4, e5⟩ := got_all Y
 cases h with
 | arr hy h hok =>
  obtain ⟨q, h1, h2, h3⟩ := h
  refine (fnode_got Z F fb fd x n q _ w h1 _ h2 hy (hok.s.len40 h6)).mono ?_
  rintro e w' ⟨A, c, rfl, hR, hA, hK⟩
  refine ⟨A, c, ?_, ?_, hA, hK⟩
  ·show Ending.returned (.tuple #[.int .u64 (n : Int), .agg #[.int .i64 ((got Y (Y.xs.length + 3)).lv : Int), .slice A (got Y (Y.xs.length + 3)).xs.length c, .string (got Y (Y.xs.length + 3)).hi, .bool (got Y (Y.xs.length + 3)).la, .int .u64 ((got Y (Y.xs.length + 3)).rt : Int)]]) = _
   rw [e1, e2, e3, e4, e5]
  ·have hR' : Rs w' A c (got Y (Y.xs.length + 3)).xs := hR
   rw [e5] at hR'; exact hR'
theorem holds_inj {ad : Nat → Int} {l : List Cel} {P Q : Pg} (hP : Holds ad l P) (hQ : Holds ad l Q) (wP : Wf P) (wQ : Wf Q) : P = Q := by
 have hh : ∀ r, r < P.xs.length + 3 → r < Q.xs.length + 3 → pc P r = pc Q r := fun r h1 h2 => (hP r h1).symm.trans (hQ r h2)
 have h0 := hh 0 (by omega) (by omega)
 have h1 := hh 1 (by omega) (by omega)
 have h2 := hh 2 (by omega) (by omega)
 have e0 : ((P.xs.length : Int), (⟨#[]⟩ : ByteArray), (P.lv : Int)) = ((Q.xs.length : Int), (⟨#[]⟩ : ByteArray), (Q.lv : Int)) := h0
 have e1 : hiCel P.hi P.la = hiCel Q.hi Q.la := h1
 have e2 : ((P.rt : Int), (⟨#[]⟩ : ByteArray), (0 : Int)) = ((Q.rt : Int), (⟨#[]⟩ : ByteArray), (0 : Int)) := h2
 have hl : P.xs.length = Q.xs.length := by have := congrArg (fun c : Cel => c.1) e0; simp at this; omega
 have hv : P.lv = Q.lv := by have := congrArg (fun c : Cel => c.2.2) e0; simp at this; omega
 have hr : P.rt = Q.rt := by have := congrArg (fun c : Cel => c.1) e2; simp at this; omega
 have hx : P.xs = Q.xs := by
  refine List.ext_getElem? fun i => ?_
  by_cases hi : i < P.xs.length
  ·have h3 := hh (i + 3) (by omega) (by omega)
   obtain ⟨x, ex⟩ : ∃ x, P.xs[i]? = some x := ⟨_, List.getElem?_eq_getElem hi⟩
   obtain ⟨y, ey⟩ : ∃ y, Q.xs[i]? = some y := ⟨_, List.getElem?_eq_getElem (by omega)⟩
   have f1 : pc P (i + 3) = slCel x := by
    unfold pc
    rw [if_neg (by omega), if_neg (by omega), if_neg (by omega), show i + 3 - 3 = i by omega, ex]
   have f2 : pc Q (i + 3) = slCel y := by
    unfold pc
    rw [if_neg (by omega), if_neg (by omega), if_neg (by omega), show i + 3 - 3 = i by omega, ey]
   rw [f1, f2] at h3
   have g1 : (x.2 : Int) = (y.2 : Int) := congrArg (fun c : Cel => c.1) h3
   have g2 : x.1 = y.1 := congrArg (fun c : Cel => c.2.1) h3
   rw [ex, ey, Prod.ext g2 (by omega : x.2 = y.2)]
  ·rw [List.getElem?_eq_none (by omega), List.getElem?_eq_none (by omega)]
 have hla : P.la = Q.la ∧ P.hi = Q.hi := by
  unfold hiCel at e1
  cases ha : P.la <;> cases hb : Q.la
  ·rw [ha, hb] at e1
   simp only [Bool.false_eq_true, if_false] at e1
   exact ⟨rfl, congrArg (fun c : Cel => c.2.1) e1⟩
  ·rw [ha, hb] at e1
   simp only [Bool.false_eq_true, if_false, if_true] at e1
   have := congrArg (fun c : Cel => c.2.2) e1
   simp at this
  ·rw [ha, hb] at e1
   simp only [Bool.false_eq_true, if_false, if_true] at e1
   have := congrArg (fun c : Cel => c.2.2) e1
   simp at this
  ·exact ⟨rfl, by rw [wP ha, wQ hb]⟩
 obtain ⟨a, c⟩ := hla
 cases P; cases Q
 simp only at hl hv hr hx a c
 subst hv hr hx a c
 rfl
theorem FWs.arrive {F : Nat} {key : ByteArray} {lvl : Nat} {l : List Cel} (hn : Nats l) {t : Nat} {s : Fs} (f : FWs F key lvl l (0 + 1) t s) (ht : t ≠ 0) :
  ∃ (wd : Nat) (P : Pg), fgo F key lvl l s = .arr t ⟨3, wd, got P (P.xs.length + 3)⟩ ∧ Nd F l t P := by
 generalize hD : 0 + 1 = D at f
 cases f with
 | arr => omega
 | no => omega
 | root hc p => have := p.len; omega
 | rd p hw hb hj hy =>
  rename_i n wd P lo lo2 D j y
  have hl := p.len
  have nd := p.nd
  have e0 : fgo F key lvl l (.rd n y) = fdo key lvl n (rgo F n l y) := rfl
  rcases hy.step hn nd.holds nd.wf nd.len hw hb with ⟨h1, h2, h3⟩ | ⟨h1, h2⟩
  ·omega
  ·have hpg : (got P (P.xs.length + 3)).pg = P := got_end P
   have e1 : fdo key lvl n (rgo F n l y) = (if (nxF key lvl P).1 = 1 then .rd (nxF key lvl P).2.1 rst0 else if (nxF key lvl P).1 = 2 then .arr n (rgo F n l y) else .no) := by
    unfold fdo
    rw [h2]; show (if (3 : Nat) = 3 then _ else _) = _
    rw [if_pos rfl]
    show (if (nxF key lvl (got P (P.xs.length + 3)).pg).1 = 1 then _ else _) = _
    rw [hpg]
   rcases p.inv with ⟨hD0, rfl, rfl, e⟩ | ⟨hD0, rfl, rfl, e⟩ | ⟨P2, lo3, m, d2, hD0, e, p2⟩
   ·rw [e0, e1, e, h2]
    exact ⟨wd, P, by rw [if_neg (by omega), if_pos rfl], nd⟩
   ·exact absurd rfl ht
   ·have := p2.len; omega
theorem slot_stands {xs : List Sl} (ha : Asc xs) {k : ByteArray} {r : Nat} (h : (k, r) ∈ xs) : xs[cnt k xs]? = some (k, r) ∧ has k xs = true := by
 obtain ⟨i, hi, e⟩ := List.getElem_of_mem h
 have hx : xs[i]? = some (k, r) := by rw [List.getElem?_eq_getElem hi, e]
 have h1 := lt_at xs ha k i _ hx
 have h2 : lt (k, r) k = false := ltB_self _
 rw [h2] at h1
 have hge : cnt k xs ≤ i := by have := of_decide_eq_false h1.symm; omega
 have hkh : has k xs = true := by
  unfold has
  exact List.any_eq_true.2 ⟨_, h, eqk_self k r⟩
 obtain ⟨y, hy, hyk, hlt⟩ := has_in ha hkh
 refine ⟨?_, hkh⟩
 by_cases he : cnt k xs = i
 ·rw [he]; exact hx
 ·exfalso
  have hasc : ∀ {zs : List Sl}, Asc zs → ∀ (p q : Nat) (a c : Sl), p < q → zs[p]? = some a → zs[q]? = some c → lt a c.1 = true := by
   intro zs
   induction zs with
   | nil => intro _ p q a c _ h; simp at h
   | cons z r ih =>
    intro hz p q a c hpq hp hq
    cases q with
    | zero => omega
    | succ q =>
     have hq' : r[q]? = some c := by simpa using hq
     cases p with
     | zero => simp at hp; subst hp; exact asc_head hz c (List.mem_of_getElem? hq')
     | succ p => exact ih (asc_tail hz) p q a c (by omega) (by simpa using hp) hq'
  have h3 := hasc ha _ _ _ _ (by omega : cnt k xs < i) hy hx
  have h4 : lt y k = true := h3
  have h5 := lt_at xs ha k _ _ hy
  rw [h4] at h5
  have := of_decide_eq_true h5.symm
  omega
end
end Go.Proofs.YtjnodgebpklaoaaGreat
