/-
  What List of a model answers. Condition: at most a million batches and stores.
-/
import Derived.Test.YtodenkamlbihnaaModGet
import Derived.Test.YtodenkamlbihnaaModSort
namespace Go.Proofs.Ytodenkamlbihnaa
open Go.RowKit Go.Deep Plain PlainE
set_option linter.unusedVariables false

/-- The entries of the keys that have come. -/
def Col (ch : ByteArray → List Chg) (t : Nat) (left : Lit → Bool) (es : List Ent) : Prop :=
  (∀ k v, (k, v) ∈ es ↔ (ch k ≠ [] ∧ left (litB k) = false ∧ valAt (ch k) t = some v)) ∧ (es.map (·.1)).Nodup
theorem Col.start {ch : ByteArray → List Chg} {t : Nat} {left : Lit → Bool} (h : ∀ k, left (litB k) = true ↔ ch k ≠ []) : Col ch t left [] :=
  ⟨fun k v => (by
    constructor
    · intro h; simp at h
    · rintro ⟨h1, h2, _⟩
      rw [(h k).2 h1] at h2; cases h2), (by simp)⟩
theorem left_same {left : Lit → Bool} {x : ByteArray} : (left (litB x) && !(litB x).sameKey (litB x)) = false := by
  rw [WideAt.sameKey_self (show WideAt.IsKeyLit (litB x) from trivial)]; simp
theorem left_other {left : Lit → Bool} {x k : ByteArray} (h : k ≠ x) : (left (litB k) && !(litB k).sameKey (litB x)) = left (litB k) := by
  rw [Maps.sameKey_ne (fun e => h (litB_inj e))]; simp
theorem Col.yes {ch : ByteArray → List Chg} {t : Nat} {left : Lit → Bool} {es : List Ent} (h : Col ch t left es) {x s : ByteArray} (hl : left (litB x) = true) (hx : ch x ≠ []) (hv : valAt (ch x) t = some s) : Col ch t (fun z => left z && !z.sameKey (litB x)) (es ++ [(x, s)]) := by
  have hno : ∀ v, (x, v) ∉ es := fun v hm => by
    have := ((h.1 x v).1 hm).2.1
    rw [hl] at this; cases this
  refine ⟨fun k v => ?_, ?_⟩
  · by_cases e : k = x
    · subst e
      show _ ↔ (ch k ≠ [] ∧ (left (litB k) && !(litB k).sameKey (litB k)) = false ∧ _)
      rw [left_same]
      constructor
      · intro hm
        rcases List.mem_append.1 hm with h1 | h1
        · exact absurd h1 (hno v)
        · obtain ⟨_, rfl⟩ : k = k ∧ v = s := by simpa using h1
          exact ⟨hx, rfl, hv⟩
      · rintro ⟨_, _, h2⟩
        rw [hv] at h2; cases h2
        simp
    · show _ ↔ (ch k ≠ [] ∧ (left (litB k) && !(litB k).sameKey (litB x)) = false ∧ _)
      rw [left_other e, ← h.1 k v]
      simp [e]
  · rw [List.map_append, List.nodup_append]
    refine ⟨h.2, by simp, fun a ha c hc => ?_⟩
    obtain ⟨y, hy, rfl⟩ := List.mem_map.1 ha
    obtain rfl : c = x := by simpa using hc
    intro e
    exact hno y.2 (e ▸ hy)
theorem Col.no {ch : ByteArray → List Chg} {t : Nat} {left : Lit → Bool} {es : List Ent} (h : Col ch t left es) {x : ByteArray} (hl : left (litB x) = true) (hv : valAt (ch x) t = none) : Col ch t (fun z => left z && !z.sameKey (litB x)) es := by
  refine ⟨fun k v => ?_, h.2⟩
  by_cases e : k = x
  · subst e
    show _ ↔ (ch k ≠ [] ∧ (left (litB k) && !(litB k).sameKey (litB k)) = false ∧ _)
    rw [left_same]
    constructor
    · intro hm
      have := ((h.1 k v).1 hm).2.2
      rw [hv] at this; cases this
    · rintro ⟨_, _, h2⟩
      rw [hv] at h2; cases h2
  · show _ ↔ (ch k ≠ [] ∧ (left (litB k) && !(litB k).sameKey (litB x)) = false ∧ _)
    rw [left_other e, ← h.1 k v]
theorem Col.fin {ch : ByteArray → List Chg} {t : Nat} {left : Lit → Bool} {es : List Ent} (h : Col ch t left es) (hl : ∀ kl, left kl = false) : ∀ k v, (k, v) ∈ es ↔ valAt (ch k) t = some v := fun k v => by
  rw [h.1 k v, hl]
  constructor
  · rintro ⟨_, _, h⟩; exact h
  · intro hv
    refine ⟨fun e => ?_, rfl, hv⟩
    rw [e] at hv; cases hv
theorem Below.grownN {w w' : World} (h : Below w.heap.size w w') : w.grownBy w' none := ⟨h.os, h.tape, h.output, h.size, fun i hi _ => h.block i hi⟩

set_option maxRecDepth 100000 in
set_option maxHeartbeats 2000000 in
theorem mlist_any {p B m : Nat} {Z : Nat → Prop} {bs : List (List Wri)} {fl : Nat} {sn : Lit → Option Nat} (w : World) (h : MdS w p B Z m bs fl sn) (hT : bs.length ≤ 1000000) (hm : m ≤ 1000000) (t : Nat) :
    Calls Try.prog 27 #[.pointer (some ⟨p, 0, none⟩), .int .u64 (t : Int)] w fun e w' => ∃ A r c, e = .returned (.slice A r c) ∧ RE w' A c (stateL bs t) ∧ (stateL bs t).length = r ∧ Below w.heap.size w w' ∧ (∀ a, A = some a → w.heap.size ≤ a.block) ∧ r ≤ 1000000 := by
  obtain ⟨bc, bn, nc, nn, Dc, Dn, sl, ch, hp, hc, hs', h1, h2, h3, h4, h5, h6, h7, h8, hz⟩ := h
  have c2 := hp.cell (i := 2) rfl
  have hown := hc.own
  have HC := Lib.hid hc
  have HCS := Lib.hid h1
  have hnc : Maps.size Dc ≤ 1000000 := by have := hown.size_le; omega
  clear h1 h2 h3 h4 h5 h6 h7 h8 hz hs' hp hc
  go_enter Try.func27, Try.ntmps27
  go_wp2_with (first | (at_range; refine wpList_range_own _ rfl _ 62 rfl 9 75 keyedS Try.underlying62 _ bc nc Dc rfl hown ?_; intro w0 hrg0 hg0 hs0) | fail)
  go_frame
  have HB0 := Lib.hid ((Below.refl w.heap.size w).grown hg0 (Nat.le_refl _) (fun k hk => by cases hk))
  have hbc := hown.lt
  have HBC := Lib.hid hbc
  clear c2 hown hbc
  go_loopw [5] (fun o wr => ∃ (left : Lit → Bool) (cnt q : Nat) (es : List Ent), es.length = q ∧ q + cnt ≤ Maps.size Dc ∧ wr.ownsRow (w.heap.size + 1) 57 2 o q (flatE es) ∧ wr.ranges Try.prog 9 rawE bc w.heap.size nc Dc left cnt ∧ Col ch t left es ∧ Below w.heap.size w wr ∧ w.heap.size + 1 ≤ wr.heap.size) (fun _ wr => wr.rangeLeft bc w.heap.size)
  case atStart => exact ⟨_, _, 0, [], rfl, by omega, World.ownsRow_nil _ _ _ _, hrg0, Col.start HC.out.has, HB0.out, by omega⟩
  case round =>
    obtain ⟨left, cnt, q, es, hq, hqc, hrow, hrg, hcol, hbel, hsz⟩ := hrel
    have HQ := Lib.hid hq
    have HW := Lib.hid hrow
    have HRG := Lib.hid hrg
    have HCL := Lib.hid hcol
    have HB := Lib.hid hbel
    clear hq hrow hcol hbel hg0 hrg0
    go_wp2_with (first | (at_next; refine wpList_next_ranges _ rfl _ rfl 9 keyedS rawE (fun s : ByteArray => Value.string s) (fun v : Value => v) (fun key kl hk => (keyOf_str_inv hk).imp fun s h => h.1) (fun v y _ => ⟨v, rfl⟩) bc w.heap.size nc Dc left cnt rfl hrg ?_ ?_) | fail)
    · intro hc0 hl0
      have hfin := HCL.out.fin hl0
      have HF := Lib.hid hfin
      have HND := Lib.hid HCL.out.2
      have hq1 : q ≤ 1099511627776 := by omega
      clear hrg hfin HRG
      go_wp2_with fail
      refine (sortE_any _ _ q es _ hq1 HW.out).mono ?_; rintro e w1 ⟨rfl, A1, c1, l1, rfl, hl1, hR1, hp1, hs1, hB1⟩
      have hst := sorted_state HCS.out HF.out HND.out hp1 hs1
      rw [hst] at hR1 hl1
      have HR1 := Lib.hid hR1
      have HL1 := Lib.hid hl1
      have HFR := Lib.hid (show ∀ a, A1 = some a → w.heap.size ≤ a.block from fun a ha => by
        subst ha
        have := (own_cells HW.out (g := a.block) rfl).1
        omega)
      have HB1 := Lib.hid (HB.out.trans (hB1.mono (Nat.le_succ _)))
      clear hR1 hl1 hp1 hs1 hB1 hst
      go_wp2
      go_ret
      exact ⟨_, _, _, rfl, HR1.out, HL1.out, HB1.out, HFR.out, by omega⟩
    · intro x v9 kl yd yp w1 cnt1 hkey hlk hy hat hrg1 hlt hg1 hs1 hen
      obtain ⟨x', ex, hkl, hxs⟩ := keyOf_str_inv hkey
      cases ex
      subst hkl
      have hyd : yd = .held v9 := (Prod.mk.inj (Option.some.inj hy)).1.symm
      have hhas : Maps.has Dc (litB x) = true := Maps.has_true_of_atKey hat
      have hch := (HC.out.has x).1 hhas
      have hv9 : v9 = sl x := by
        have h9 := HC.out.val x hch .nil
        rw [hat .nil, hyd] at h9
        exact DataW.held.inj h9
      obtain ⟨A, c0, e1, hl, hR, _⟩ := RC.own (HC.out.row x)
      rw [e1] at hv9
      subst hv9
      obtain ⟨so, hso⟩ : ∃ so, valAt (ch x) t = so := ⟨_, rfl⟩
      have hB1 := HB.out.grown hg1 (by omega) (fun k hk => by cases hk; exact Nat.le_refl _)
      have con := valueAt_any A c0 (ch x) t w1 (ch x).length rfl (Nat.le_trans (HCS.out.len x) hT) (hR.below hB1 (Nat.le_refl _)) (HCS.out.asc x) _ rfl _ rfl
      rw [hso] at con
      generalize (ch x).length = n9 at con hen
      have hW1 := HW.out.kept hg1 (by
        cases hob : Value.ownBlock _ with
        | none => exact .inl rfl
        | some g =>
          have := (own_cells HW.out hob).1
          refine .inr (fun e => ?_)
          injection e with e
          omega)
      have HW1 := Lib.hid hW1
      have HRG1 := Lib.hid hrg1
      have HB1 := Lib.hid hB1
      have HM := Lib.hid (show w1.rangeLeft bc w.heap.size = cnt1 ∧ wr.rangeLeft bc w.heap.size = cnt ∧ cnt1 < cnt from ⟨hrg1.left_eq, HRG.out.left_eq, hlt⟩)
      have HLK := Lib.hid hlk
      have HCH := Lib.hid hch
      clear hrg1 hg1 hkey hlk hy hat hrg hyd hhas hch e1 hl hR hW1 hB1 HRG HW
      cases so with
      | none =>
        have HN := Lib.hid (HCL.out.no HLK.out hso)
        clear hso
        go_wp2_with fail
        refine con.mono ?_; rintro e w2 ⟨rfl, hB2⟩
        have HB2 := Lib.hid (HB1.out.trans (hB2.mono (by omega)))
        have HRG2 := Lib.hid (HRG1.out.kept (Below.grownN hB2) (by simp) (by simp))
        have HW2 := Lib.hid (own_below HW1.out hB2 (Nat.le_refl _))
        have hs2 := hB2.size
        clear hB2 con hen
        go_wp2
        go_roundw
        case rel => exact ⟨_, cnt1, q, es, HQ.out, by omega, HW2.out, HRG2.out, HN.out, HB2.out, by omega⟩
        case measure => rw [HRG2.out.left_eq, HM.out.2.1]; exact hlt
      | some s =>
        have HN := Lib.hid (HCL.out.yes HLK.out HCH.out hso)
        clear hso
        go_wp2_with fail
        refine con.mono ?_; rintro e w2 ⟨rfl, hB2⟩
        have HB2 := Lib.hid (HB1.out.trans (hB2.mono (by omega)))
        have HRG2 := Lib.hid (HRG1.out.kept (Below.grownN hB2) (by simp) (by simp))
        have HW2 := Lib.hid (own_below HW1.out hB2 (Nat.le_refl _))
        have hs2 := hB2.size
        have e5 : strO (some s) = s := rfl
        have e6 : (some s).isSome = true := rfl
        rw [e5, e6]
        clear hB2 con hen e5 e6
        go_wp2_with (at_builtin; go_must (refine wpList_appEG rfl (.tmp 27) (.tmp 31) rfl (w.heap.size + 1) _ q es rfl (HW2.out.alloc _) _ 1 1 [(x, s)] rfl rfl (RE.one w2 (x, s) _) (by omega) (by rw [nblk_alloc]; omega) ?_))
        intro v3 w3 hown3 hB3 hg3
        have hal := (HB2.out.alloc (show w.heap.size ≤ w2.heap.size by omega) (.cells #[.string x, .string s] 57))
        have HB3 := Lib.hid (hal.trans (hB3.mono (Nat.le_succ _)))
        have hnb : ∀ i, i ≤ w.heap.size → some i ≠ Value.ownBlock _ := fun i hi e => by
          have := (own_cells HW2.out e.symm).1
          omega
        have HRG3 := Lib.hid ((HRG2.out.alloc (.cells #[.string x, .string s] 57)).kept hg3 (hnb bc (Nat.le_of_lt HBC.out)) (hnb w.heap.size (Nat.le_refl _)))
        have HW3 := Lib.hid hown3
        have hs3 := hg3.size
        rw [nblk_alloc] at hs3
        clear hown3 hB3 hg3 hal hnb
        go_wp2
        go_roundw
        case rel => exact ⟨_, cnt1, q + 1, es ++ [(x, s)], by rw [List.length_append, HQ.out]; rfl, by omega, HW3.out, HRG3.out, HN.out, HB3.out, by omega⟩
        case measure => rw [HRG3.out.left_eq, HM.out.2.1]; exact hlt
end Go.Proofs.Ytodenkamlbihnaa
