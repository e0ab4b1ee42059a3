/-
  What a Write's stores make of the memory, store by store; what Peek sees of a page that lies there. Condition: none.
-/
import Derived.Test.YtlehpcbhfdnkdaaNodRows
namespace Go.Proofs.Ytlehpcbhfdnkdaa
open Go.RowKit Go.Deep Plain
set_option linter.unusedVariables false

theorem wsto_length (la : Int) (wb we : Nat) (cs : List Sto) : (wsto la wb we cs).length = cs.length + 2 := by unfold wsto; simp
theorem sto_ex {ss : List Sto} {j : Nat} (h : j < ss.length) : ∃ (ad cN : Int) (cK : ByteArray) (cM : Int), ss[j]? = some (ad, cN, cK, cM) := by
  obtain ⟨s, hs⟩ : ∃ s, ss[j]? = some s := ⟨_, List.getElem?_eq_getElem h⟩
  obtain ⟨ad, cN, cK, cM⟩ := s
  exact ⟨ad, cN, cK, cM, hs⟩
theorem wsto_mid {la : Int} {wb we : Nat} {cs : List Sto} {l : List Cel} (hla : 0 ≤ la ∧ la < l.length) (hne : ∀ s ∈ cs, s.1 ≠ la) {j : Nat} (h1 : 1 ≤ j) (h2 : j ≤ cs.length + 1) : (cellAt (app l ((wsto la wb we cs).take j)) la).1 = (wb : Int) := by
  obtain ⟨i, rfl⟩ : ∃ i, j = i + 1 := ⟨j - 1, by omega⟩
  have e : (wsto la wb we cs).take (i + 1) = (la, ((wb : Int), (⟨#[]⟩ : ByteArray), (0 : Int))) :: cs.take i := by
    unfold wsto
    rw [List.cons_append, List.take_succ_cons, List.take_append_of_le_length (by omega)]
  rw [e]
  show (cellAt (app (putAt l la ((wb : Int), (⟨#[]⟩ : ByteArray), (0 : Int))) (cs.take i)) la).1 = _
  rw [app_other _ _ (fun s hs => hne s (List.mem_of_mem_take hs)), cellAt_same hla]
theorem wsto_app {la : Int} {wb we : Nat} {cs : List Sto} {l : List Cel} : app l (wsto la wb we cs) = putAt (app (putAt l la ((wb : Int), (⟨#[]⟩ : ByteArray), (0 : Int))) cs) la ((we : Int), (⟨#[]⟩ : ByteArray), (0 : Int)) := by
  unfold wsto; rw [app_snoc]; rfl
theorem wsto_end {la : Int} {wb we : Nat} {cs : List Sto} {l : List Cel} (hla : 0 ≤ la ∧ la < l.length) : (cellAt (app l (wsto la wb we cs)) la).1 = (we : Int) := by
  rw [wsto_app, cellAt_same (by rw [app_length, putAt_length]; exact hla)]
theorem wsto_holds {F : Nat} {la : Int} {ad : Nat → Int} {n : Nat} (ha : Ads F la ad n) {wb we : Nat} {l : List Cel} (hn : l.length = n) {P Q : Pg} (hP : Holds ad l P) (hF : P.xs.length ≤ F) (hQ : Q.xs.length ≤ F) : Holds ad (app l (wsto la wb we (chg (pst ad P) (pst ad Q)))) Q := by
  have h1 : Holds ad (putAt l la ((wb : Int), (⟨#[]⟩ : ByteArray), (0 : Int))) P := fun r hr => by
    rw [cellAt_other (Ne.symm (ha.ne r (by omega)))]; exact hP r hr
  have h2 := chg_holds ha (by rw [putAt_length]; exact hn) h1 hF hQ
  intro r hr
  rw [wsto_app, cellAt_other (Ne.symm (ha.ne r (by omega)))]
  exact h2 r hr
theorem wsto_nats {la : Int} {wb we : Nat} {cs : List Sto} (hb : wb < 18446744073709551616) (he : we < 18446744073709551616) (hc : ∀ s ∈ cs, NatCell s.2) : ∀ s ∈ wsto la wb we cs, NatCell s.2 := by
  intro s hs
  unfold wsto at hs
  rcases List.mem_append.1 hs with h | h
  · rcases List.mem_cons.1 h with rfl | h
    · exact ⟨wb, 0, _, rfl, hb, by omega⟩
    · exact hc s h
  · rw [List.mem_singleton.1 h]; exact ⟨we, 0, _, rfl, he, by omega⟩
theorem nats_take {l : List Cel} {ss : List Sto} (h : Nats l) (hc : ∀ s ∈ ss, NatCell s.2) (j : Nat) : Nats (app l (ss.take j)) := h.app fun s hs => hc s (List.mem_of_mem_take hs)
theorem chg_ne {F : Nat} {la : Int} {ad : Nat → Int} {n : Nat} (ha : Ads F la ad n) {fr : List Sto} {Q : Pg} (hQ : Q.xs.length ≤ F) : ∀ s ∈ chg fr (pst ad Q), s.1 ≠ la := fun s hs => by
  obtain ⟨r, hr, rfl⟩ := chg_addr hs
  exact ha.ne r (by omega)
/-- What Peek sees where a page lies. -/
theorem peek_got {F : Nat} {l : List Cel} {ad : Nat → Int} {P : Pg} (hn : Nats l) (hP : Holds ad l P) (hw : Wf P) (hF : P.xs.length ≤ F) {m : Nat} (h0 : 0 < m) (h1 : (rdn F l ad m).rd = (rdn F l ad m).en) (h2 : ∀ i, 0 < i → i < m → (rdn F l ad i).rd ≠ (rdn F l ad i).en) : rdn F l ad m = got P (P.xs.length + 3) := by
  have e := rdn_holds hn hP hw hF
  have hl : (rdn F l ad (P.xs.length + 3)).rd = (rdn F l ad (P.xs.length + 3)).en := by
    rw [e _ (Nat.le_refl _)]; show P.xs.length + 3 = if P.xs.length + 3 = 0 then 0 else P.xs.length + 3; rw [if_neg (by omega)]
  have hm : m ≤ P.xs.length + 3 := by
    rcases Nat.lt_or_ge (P.xs.length + 3) m with h | h
    · exact absurd hl (h2 _ (by omega) h)
    · exact h
  rw [e m hm] at h1 ⊢
  have : m = P.xs.length + 3 := by
    have h3 : m = if m = 0 then 0 else P.xs.length + 3 := h1
    rw [if_neg (by omega)] at h3; exact h3
  rw [this]
section
variable {w wr wz : World} {F : Nat} {fb fd : Int} {b g b9 b10 x : Nat}
/-- Behind a store into a block of the law's own. -/
theorem Ev.at (E : Ev w wr F fb fd b g b9 b10) (hx : b9 < x ∧ b10 < x ∧ w.heap.size ≤ x) (hk : Kept (fun i => i = x) wr wz) : Ev w wz F fb fd b g b9 b10 :=
  ⟨hk.blk E.cfg (by omega), hk.blk E.lay (by omega), E.kept.trans hk (fun i hi e => by omega), E.bg, E.n9, E.n10⟩
end
end Go.Proofs.Ytlehpcbhfdnkdaa
