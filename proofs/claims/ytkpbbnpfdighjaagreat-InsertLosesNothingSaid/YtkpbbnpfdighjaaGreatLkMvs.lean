/-
  What a Read of a node knows while the node's owner rewrites it. No program runs here. Condition: none.
-/
import Derived.Test.YtkpbbnpfdighjaaGreatLkNew
import Derived.Test.YtkpbbnpfdighjaaGreatLkSched
namespace Go.Proofs.YtkpbbnpfdighjaaGreat
section
open Go.RowKit Go.Deep Plain
set_option linter.unusedVariables false

theorem wsto_length (la : Int) (wb we : Nat) (cs : List Sto) : (wsto la wb we cs).length = cs.length + 2 := by unfold wsto; simp
theorem wsto_mid {la : Int} {wb we : Nat} {cs : List Sto} {l : List Cel} (hla : 0 ≤ la ∧ la < l.length) (hne : ∀ s ∈ cs, s.1 ≠ la) {j : Nat} (h1 : 1 ≤ j) (h2 : j ≤ cs.length + 1) : (cellAt (app l ((wsto la wb we cs).take j)) la).1 = (wb : Int) := by
  obtain ⟨i, rfl⟩ : ∃ i, j = i + 1 := ⟨j - 1, by omega⟩
  have e : (wsto la wb we cs).take (i + 1) = (la, ((wb : Int), (⟨#[]⟩ : ByteArray), (0 : Int))) :: cs.take i := by
    unfold wsto
    rw [List.cons_append, List.take_succ_cons, List.take_append_of_le_length (by omega)]
  rw [e]
  show (cellAt (app (putAt l la ((wb : Int), (⟨#[]⟩ : ByteArray), (0 : Int))) (cs.take i)) la).1 = _
  rw [app_other _ _ (fun s hs => hne s (List.mem_of_mem_take hs)), cellAt_same hla]
theorem wsto_app {la : Int} {wb we : Nat} {cs : List Sto} {l : List Cel} : app l (wsto la wb we cs) = putAt (app (putAt l la ((wb : Int), (⟨#[]⟩ : ByteArray), (0 : Int))) cs) la ((we : Int), (⟨#[]⟩ : ByteArray), (0 : Int)) := by
  unfold wsto; rw [app_snoc]; rfl
theorem wsto_end {la : Int} {wb we : Nat} {cs : List Sto} {l : List Cel} (hla : 0 ≤ la ∧ la < l.length) : (cellAt (app l (wsto la wb we cs)) la).1 = (we : Int) := by
  rw [wsto_app, cellAt_same (by rw [app_length, putAt_length]; exact hla)]
theorem wsto_holds {F : Nat} {la : Int} {ad : Nat → Int} {n : Nat} (ha : Ads F la ad n) {wb we : Nat} {l : List Cel} (hn : l.length = n) {P Q : Pg} (hP : Holds ad l P) (hF : P.xs.length ≤ F) (hQ : Q.xs.length ≤ F) : Holds ad (app l (wsto la wb we (chg (pst ad P) (pst ad Q)))) Q := by
  have h1 : Holds ad (putAt l la ((wb : Int), (⟨#[]⟩ : ByteArray), (0 : Int))) P := fun r hr => by
    rw [cellAt_other (Ne.symm (ha.ne r (by omega)))]; exact hP r hr
  have h2 := chg_holds ha (by rw [putAt_length]; exact hn) h1 hF hQ
  intro r hr
  rw [wsto_app, cellAt_other (Ne.symm (ha.ne r (by omega)))]
  exact h2 r hr
theorem wsto_nats {la : Int} {wb we : Nat} {cs : List Sto} (hb : wb < 18446744073709551616) (he : we < 18446744073709551616) (hc : ∀ s ∈ cs, NatCell s.2) : ∀ s ∈ wsto la wb we cs, NatCell s.2 := by
  intro s hs
  unfold wsto at hs
  rcases List.mem_append.1 hs with h | h
  · rcases List.mem_cons.1 h with rfl | h
    · exact ⟨wb, 0, _, rfl, hb, by omega⟩
    · exact hc s h
  · rw [List.mem_singleton.1 h]; exact ⟨we, 0, _, rfl, he, by omega⟩
theorem nats_take {l : List Cel} {ss : List Sto} (h : Nats l) (hc : ∀ s ∈ ss, NatCell s.2) (j : Nat) : Nats (app l (ss.take j)) := h.app fun s hs => hc s (List.mem_of_mem_take hs)
theorem chg_ne {F : Nat} {la : Int} {ad : Nat → Int} {n : Nat} (ha : Ads F la ad n) {fr : List Sto} {Q : Pg} (hQ : Q.xs.length ≤ F) : ∀ s ∈ chg fr (pst ad Q), s.1 ≠ la := fun s hs => by
  obtain ⟨r, hr, rfl⟩ := chg_addr hs
  exact ha.ne r (by omega)
end

section
open Go.RowKit Go.Deep Plain
set_option linter.unusedVariables false

/-- The cells of node 1, whose page is P behind C changes; ch: the next change is under way. -/
structure Nd1 (F : Nat) (l : List Cel) (P : Pg) (C : Nat) (ch : Bool) : Prop where
  still : ch = false → Holds (nad F 1) l P ∧ ∃ b0 : Nat, b0 ≤ 1 ∧ (cellAt l (nla F 1)).1 = ((b0 + 4 * C : Nat) : Int)
  busy : ch = true → (cellAt l (nla F 1)).1 = ((3 + 4 * C : Nat) : Int)
/-- What is known of a reader that began when at least fr changes had been made. -/
structure Rv (F : Nat) (P : Pg) (C : Nat) (ch : Bool) (fr : Nat) (y : Rst) : Prop where
  ok : Okr F y
  ph : y.ph < 3
  mid : y.ph = 1 ∨ y.ph = 2 → ∃ v, fr ≤ v ∧ v ≤ C ∧ (∃ b0 : Nat, b0 ≤ 1 ∧ y.wd = b0 + 4 * v) ∧ (v = C → ch = false → y.s = got P y.s.rd ∧ (y.ph = 1 → y.s.rd < P.xs.length + 3) ∧ (y.ph = 2 → y.s.rd = P.xs.length + 3))
  fr : fr ≤ C
theorem Rv.new {F : Nat} {P : Pg} {C : Nat} {ch : Bool} {fr : Nat} (h : fr ≤ C) : Rv F P C ch fr rst0 :=
  ⟨okr0 F, by decide, fun h => (by rcases h with h | h <;> cases h), h⟩
theorem Rv.le {F : Nat} {P : Pg} {C : Nat} {ch : Bool} {fr f2 : Nat} {y : Rst} (h : Rv F P C ch fr y) (hf : f2 ≤ fr) : Rv F P C ch f2 y :=
  ⟨h.ok, h.ph, fun e => (by obtain ⟨v, h1, h2⟩ := h.mid e; exact ⟨v, Nat.le_trans hf h1, h2⟩), Nat.le_trans hf h.fr⟩
/-- A change begins, or goes on. -/
theorem Rv.busy {F : Nat} {P : Pg} {C : Nat} {ch : Bool} {fr : Nat} {y : Rst} (h : Rv F P C ch fr y) : Rv F P C true fr y :=
  ⟨h.ok, h.ph, fun e => (by obtain ⟨v, h1, h2, h3, _⟩ := h.mid e; exact ⟨v, h1, h2, h3, fun _ e => (by cases e)⟩), h.fr⟩
/-- A change ends. -/
theorem Rv.ended {F : Nat} {P Q : Pg} {C : Nat} {ch c2 : Bool} {fr : Nat} {y : Rst} (h : Rv F P C ch fr y) : Rv F Q (C + 1) c2 fr y :=
  ⟨h.ok, h.ph, fun e => (by obtain ⟨v, h1, h2, h3, _⟩ := h.mid e; exact ⟨v, h1, by omega, h3, fun e => by omega⟩), Nat.le_succ_of_le h.fr⟩
/-- A step of the reader: it has the page, or goes on. -/
theorem Rv.step {F : Nat} {l : List Cel} {P : Pg} {C : Nat} {ch : Bool} {fr : Nat} {y : Rst} (h : Rv F P C ch fr y) (hc : Nd1 F l P C ch) (hn : Nats l) (hw : Wf P) (hF : P.xs.length ≤ F) :
    (∃ b0 : Nat, b0 ≤ 1 ∧ rgo F 1 l y = ⟨3, b0 + 4 * C, got P (P.xs.length + 3)⟩) ∨ Rv F P C ch fr (rgo F 1 l y) := by
  have hok := rgo_ok (nid := 1) h.ok hn
  obtain ⟨ph, wd, s⟩ := y
  have hph : ph < 3 := h.ph
  have hmid := h.mid
  simp only at hmid
  rcases (by omega : ph = 0 ∨ ph = 1 ∨ ph = 2) with rfl | rfl | rfl
  · right
    have e : rgo F 1 l ⟨0, wd, s⟩ = if (cellAt l (nla F 1)).1.toNat / 2 % 2 = 1 then ⟨0, (cellAt l (nla F 1)).1.toNat, s⟩ else ⟨1, (cellAt l (nla F 1)).1.toNat, cs0⟩ := by
      unfold rgo rcell raddr
      simp only
      rw [if_pos (by omega), if_neg (by omega)]
      unfold rnext
      simp only
      rw [if_pos trivial]
    rw [e] at hok ⊢
    cases ch with
    | false =>
      obtain ⟨_, b0, hb0, h2⟩ := hc.still rfl
      have h3 : (cellAt l (nla F 1)).1.toNat = b0 + 4 * C := by rw [h2]; rfl
      rw [h3] at hok ⊢
      rw [if_neg (by omega)] at hok ⊢
      exact ⟨hok, by simp, fun _ => ⟨C, h.fr, Nat.le_refl _, ⟨b0, hb0, rfl⟩, fun _ _ => ⟨(got_zero P).symm, fun _ => by simp [cs0], fun e => by simp at e⟩⟩, h.fr⟩
    | true =>
      have h2 := hc.busy rfl
      have h3 : (cellAt l (nla F 1)).1.toNat = 3 + 4 * C := by rw [h2]; rfl
      rw [h3] at hok ⊢
      rw [if_pos (by omega)] at hok ⊢
      exact ⟨hok, by simp, fun e => by simp at e, h.fr⟩
  · right
    obtain ⟨v, h1, h2, h3, h4⟩ := hmid (.inl rfl)
    obtain ⟨c, hc1⟩ : ∃ c, cellAt l (nad F 1 s.rd) = c := ⟨_, rfl⟩
    obtain ⟨x, hx⟩ : ∃ x, tk F s c.1.toNat c.2.1 c.2.2.toNat = x := ⟨_, rfl⟩
    have e : rgo F 1 l ⟨1, wd, s⟩ = ⟨if x.rd = x.en then 2 else 1, wd, x⟩ := by
      unfold rgo rcell raddr
      simp only
      rw [if_pos (by omega), if_pos trivial]
      unfold rnext
      simp only
      rw [if_neg (by omega), if_pos trivial, hc1, hx]
    rw [e] at hok ⊢
    refine ⟨hok, by simp only; split <;> omega, fun _ => ⟨v, h1, h2, h3, fun hv hch => ?_⟩, h.fr⟩
    obtain ⟨g1, g2, _⟩ := h4 hv hch
    have hlt := g2 rfl
    subst hch
    obtain ⟨hH, _⟩ := hc.still rfl
    have hpc := hH s.rd hlt
    rw [hc1] at hpc
    have hcn := nat_toNat (hn (nad F 1 s.rd))
    rw [hc1] at hcn
    have ht : x = got P (s.rd + 1) := by
      rw [← hx, g1]
      apply tk_got hw hF hlt
      rw [← hpc]; exact hcn.1
    have hxr : x.rd = s.rd + 1 := by rw [ht]; rfl
    have hgl := got_last (P := P) (r := s.rd) hlt
    rw [← ht] at hgl
    have h5 : (x.rd = x.en) ↔ (s.rd + 1 = P.xs.length + 3) := by
      rw [Bool.eq_iff_iff] at hgl; simpa using hgl
    refine ⟨by rw [hxr]; exact ht, fun e => ?_, fun e => ?_⟩
    · simp only at e
      by_cases hz : s.rd + 1 = P.xs.length + 3
      · rw [if_pos (h5.2 hz)] at e; omega
      · show x.rd < _; omega
    · simp only at e
      by_cases hz : s.rd + 1 = P.xs.length + 3
      · show x.rd = _; omega
      · rw [if_neg (fun e2 => hz (h5.1 e2))] at e; omega
  · obtain ⟨v, h1, h2, h3, h4⟩ := hmid (.inr rfl)
    have e : rgo F 1 l ⟨2, wd, s⟩ = if wd / 2 = (cellAt l (nla F 1)).1.toNat / 2 then ⟨3, wd, s⟩ else ⟨0, wd, s⟩ := by
      unfold rgo rcell raddr
      simp only
      rw [if_pos (by omega), if_neg (by omega)]
      unfold rnext
      simp only
      rw [if_neg (by omega), if_neg (by omega)]
    rw [e] at hok ⊢
    obtain ⟨b1, hb1, h3'⟩ := h3
    replace h3' : wd = b1 + 4 * v := h3'
    by_cases hz : wd / 2 = (cellAt l (nla F 1)).1.toNat / 2
    · left
      rw [if_pos hz]
      cases ch with
      | true =>
        have h6 := hc.busy rfl
        rw [show (cellAt l (nla F 1)).1.toNat = 3 + 4 * C by rw [h6]; rfl] at hz
        omega
      | false =>
        obtain ⟨_, b0, hb0, h6⟩ := hc.still rfl
        rw [show (cellAt l (nla F 1)).1.toNat = b0 + 4 * C by rw [h6]; rfl] at hz
        have hv : v = C := by omega
        obtain ⟨g1, _, g3⟩ := h4 hv rfl
        have g4 : s.rd = P.xs.length + 3 := g3 rfl
        have g5 : s = got P (P.xs.length + 3) := by
          have : s = got P s.rd := g1
          rw [g4] at this; exact this
        exact ⟨b1, hb1, by rw [g5, h3', hv]⟩
    · right
      rw [if_neg hz] at hok ⊢
      exact ⟨hok, by simp, fun e => by simp at e, h.fr⟩

/-- A Write from the page P to the page Q, behind C changes, with j stores made. -/
structure Busy (F n0 : Nat) (l : List Cel) (P Q : Pg) (C j : Nat) (ss : List Sto) : Prop where
  eq : wsto (nla F 1) (3 + 4 * C) (5 + 4 * C) (chg (pst (nad F 1) P) (pst (nad F 1) Q)) = ss
  ex : ∃ l0, l = app l0 (ss.take j) ∧ Holds (nad F 1) l0 P ∧ (cellAt l0 (nla F 1)).1 = ((1 + 4 * C : Nat) : Int) ∧ l0.length = n0 ∧ Nats l0
theorem Busy.start {F n0 : Nat} {l : List Cel} {P Q : Pg} {C : Nat} {ss : List Sto} (hc : Nd1 F l P C false) (hw1 : (cellAt l (nla F 1)).1 = ((1 + 4 * C : Nat) : Int)) (hn : Nats l) (hl : l.length = n0) (he : wsto (nla F 1) (3 + 4 * C) (5 + 4 * C) (chg (pst (nad F 1) P) (pst (nad F 1) Q)) = ss) : Busy F n0 l P Q C 0 ss :=
  ⟨he, l, by rw [List.take_zero]; rfl, (hc.still rfl).1, hw1, hl, hn⟩
section
variable {F n0 : Nat} {l : List Cel} {P Q : Pg} {C j : Nat} {ss : List Sto}
theorem Busy.size (h : Busy F n0 l P Q C j ss) (hQ : Q.xs.length ≤ F) (h6 : F ≤ 6) : 2 ≤ ss.length ∧ ss.length ≤ 11 := by
  rw [← h.eq, wsto_length]
  have := chg_length (pst (nad F 1) P) (pst (nad F 1) Q)
  rw [pst_length] at this; omega
theorem Busy.len (h : Busy F n0 l P Q C j ss) : l.length = n0 := by
  obtain ⟨l0, rfl, _, _, hl, _⟩ := h.ex
  rw [app_length]; exact hl
theorem Busy.natsto (h : Busy F n0 l P Q C j ss) (hQ : Fits Q) (hC : C < 1000) : ∀ s ∈ ss, NatCell s.2 := by
  rw [← h.eq]; exact wsto_nats (by omega) (by omega) (hQ.chgN _ _)
theorem Busy.nats (h : Busy F n0 l P Q C j ss) (hQ : Fits Q) (hC : C < 1000) : Nats l := by
  obtain ⟨l0, rfl, _, _, _, hn⟩ := h.ex
  exact nats_take hn (h.natsto hQ hC) j
theorem Busy.cells (h : Busy F n0 l P Q C j ss) (ha : Ads F (nla F 1) (nad F 1) n0) (hQ : Q.xs.length ≤ F) (hj : j < ss.length) : Nd1 F l P C (decide (0 < j)) := by
  obtain ⟨l0, rfl, h1, h2, h3, h4⟩ := h.ex
  refine ⟨fun e => ?_, fun e => ?_⟩
  · have : j = 0 := by simpa using e
    subst this
    exact ⟨h1, 1, Nat.le_refl _, h2⟩
  · have hj0 : 0 < j := by simpa using e
    have he := h.eq
    rw [← he] at hj ⊢
    rw [wsto_length] at hj
    exact wsto_mid (by rw [h3]; exact ha.lat) (chg_ne ha hQ) (by omega) (by omega)
theorem Busy.next (h : Busy F n0 l P Q C j ss) {s : Sto} (hs : ss[j]? = some s) : Busy F n0 (putAt l s.1 s.2) P Q C (j + 1) ss := by
  obtain ⟨l0, rfl, h1, h2, h3, h4⟩ := h.ex
  exact ⟨h.eq, l0, (app_take hs).symm, h1, h2, h3, h4⟩
theorem Busy.last (h : Busy F n0 l P Q C ss.length ss) (ha : Ads F (nla F 1) (nad F 1) n0) (hP : P.xs.length ≤ F) (hQ : Q.xs.length ≤ F) : Nd1 F l Q (C + 1) false := by
  obtain ⟨l0, rfl, h1, h2, h3, h4⟩ := h.ex
  refine ⟨fun _ => ?_, fun e => (by cases e)⟩
  rw [List.take_length, ← h.eq]
  refine ⟨wsto_holds ha h3 h1 hP hQ, 1, Nat.le_refl _, ?_⟩
  rw [wsto_end (by rw [h3]; exact ha.lat)]; omega
end
end
end Go.Proofs.YtkpbbnpfdighjaaGreat
