/-
  A Lock whose Find reads node 1 while its owner splits it: what its Find is at each time. No program runs here. Condition: none.
-/
import Derived.Test.YtkpbbnpfdighjaaGreatLkMvs
namespace Go.Proofs.YtkpbbnpfdighjaaGreat
open Go.RowKit Go.Deep Plain
set_option linter.unusedVariables false

/-- The pages of the law: P is split into Q, which stays at node 1, and R, which goes to node 2. -/
structure Spl (F : Nat) (P Q R : Pg) : Prop where
  gp : Wf P ∧ P.xs.length ≤ F ∧ Asc P.xs ∧ P.lv = 0 ∧ P.la = true
  gq : Wf Q ∧ Q.xs.length ≤ F ∧ Asc Q.xs ∧ Q.lv = 0 ∧ Q.rt = 2
  gr : Wf R ∧ R.xs.length ≤ F ∧ Asc R.xs ∧ R.lv = 0 ∧ R.la = true
/-- It covers the key. -/
def cv (key : ByteArray) (P : Pg) : Bool := P.la || ltB key.toList P.hi.toList
def pgC (P Q : Pg) (C : Nat) : Pg := if C = 0 then P else Q
/-- The two nodes behind C changes of node 1; ch: the next one is under way. -/
structure Nod (F : Nat) (l : List Cel) (P Q R : Pg) (C : Nat) (ch : Bool) : Prop where
  nats : Nats l
  root : (cellAt l 0).1 = 1
  nd : Nd1 F l (pgC P Q C) C ch
  c : C ≤ 1
  two : C = 1 → Holds (nad F 2) l R ∧ ∃ wd : Nat, wd ≤ 1 ∧ (cellAt l (nla F 2)).1 = (wd : Int)
/-- A Find of the law on its way. -/
inductive FX (F : Nat) (key : ByteArray) (P Q R : Pg) (C : Nat) (ch : Bool) : Fs → Prop
  | root : FX F key P Q R C ch .root
  | one {y : Rst} (h : Rv F (pgC P Q C) C ch 0 y) : FX F key P Q R C ch (.rd 1 y)
  | two {y : Rst} {j : Nat} (hC : C = 1) (hk : cv key Q = false) (h : Rj R j y) (hj : j < R.xs.length + 5) : FX F key P Q R C ch (.rd 2 y)
/-- Where it may arrive. -/
def Arr (key : ByteArray) (Q : Pg) (C n : Nat) : Prop := n = 1 ∨ (n = 2 ∧ C = 1 ∧ cv key Q = false)
section
variable {F : Nat} {l : List Cel} {key : ByteArray} {P Q R : Pg} {C : Nat} {ch : Bool} {s : Fs}
theorem Spl.pgC (S : Spl F P Q R) (C : Nat) : Wf (pgC P Q C) ∧ (pgC P Q C).xs.length ≤ F ∧ Asc (pgC P Q C).xs ∧ (pgC P Q C).lv = 0 ∧ ((pgC P Q C).la = false → C ≠ 0 ∧ (pgC P Q C).rt = 2) := by
  unfold Proofs.YtkpbbnpfdighjaaGreat.pgC
  split
  · exact ⟨S.gp.1, S.gp.2.1, S.gp.2.2.1, S.gp.2.2.2.1, fun h => by rw [S.gp.2.2.2.2] at h; cases h⟩
  · rename_i h0
    exact ⟨S.gq.1, S.gq.2.1, S.gq.2.2.1, S.gq.2.2.2.1, fun _ => ⟨h0, S.gq.2.2.2.2⟩⟩
theorem nxF_low {X : Pg} (hlv : X.lv = 0) : nxF key 0 X = if cv key X = false then (1, X.rt, ⟨#[]⟩) else (2, 0, ⟨#[]⟩) := by
  unfold nxF cv
  rw [hlv, if_neg (Nat.lt_irrefl 0)]
  split
  · rfl
  · rw [if_neg (Nat.lt_irrefl 0)]
/-- What a Find does that has a page of the lowest level. -/
theorem fdo_got {n wd : Nat} {X : Pg} (hlv : X.lv = 0) : fdo key 0 n ⟨3, wd, got X (X.xs.length + 3)⟩ = if cv key X = true then .arr n ⟨3, wd, got X (X.xs.length + 3)⟩ else .rd X.rt rst0 := by
  have hpg : (got X (X.xs.length + 3)).pg = X := got_end X
  unfold fdo
  show (if (3 : Nat) = 3 then _ else _) = _
  rw [if_pos rfl]
  show (if (nxF key 0 (got X (X.xs.length + 3)).pg).1 = 1 then _ else _) = _
  rw [hpg, nxF_low hlv]
  cases cv key X with
  | true => rfl
  | false => rfl
theorem nxF_got {X : Pg} (hlv : X.lv = 0) : (nxF key 0 X).1 = 1 → (nxF key 0 X).2.1 = X.rt ∧ cv key X = false := by
  rw [nxF_low hlv]
  cases cv key X with
  | true => intro h; have h2 : (2 : Nat) = 1 := h; omega
  | false => intro _; exact ⟨rfl, rfl⟩
theorem FX.step (N : Nod F l P Q R C ch) (S : Spl F P Q R) (h : FX F key P Q R C ch s) :
    Fok F key 0 l s ∧ (FX F key P Q R C ch (fgo F key 0 l s) ∨ ∃ n y, fgo F key 0 l s = .arr n y ∧ Arr key Q C n) := by
  cases h with
  | root =>
    have e : (cellAt l 0).1.toNat = 1 := by rw [N.root]; rfl
    refine ⟨by show (cellAt l 0).1.toNat ≠ 0; omega, .inl ?_⟩
    show FX F key P Q R C ch (.rd (cellAt l 0).1.toNat rst0)
    rw [e]
    exact .one (Rv.new (Nat.zero_le _))
  | one h =>
    rename_i y
    have hp := S.pgC C
    show (Okr F y ∧ y.ph < 3 ∧ ((rgo F 1 l y).ph = 3 → Asc (rgo F 1 l y).s.xs ∧ ((nxF key 0 (rgo F 1 l y).s.pg).1 = 1 → (nxF key 0 (rgo F 1 l y).s.pg).2.1 ≠ 0))) ∧ (FX F key P Q R C ch (fdo key 0 1 (rgo F 1 l y)) ∨ ∃ n y9, fdo key 0 1 (rgo F 1 l y) = .arr n y9 ∧ _)
    rcases h.step N.nd N.nats hp.1 hp.2.1 with ⟨b0, hb0, e⟩ | h'
    · rw [e]
      have hpg : (got (pgC P Q C) ((pgC P Q C).xs.length + 3)).pg = pgC P Q C := got_end _
      have hxs : (got (pgC P Q C) ((pgC P Q C).xs.length + 3)).xs = (pgC P Q C).xs := by
        have : (got (pgC P Q C) ((pgC P Q C).xs.length + 3)).pg.xs = (pgC P Q C).xs := by rw [hpg]
        exact this
      have hnx : (nxF key 0 (pgC P Q C)).1 = 1 → (nxF key 0 (pgC P Q C)).2.1 = 2 ∧ C = 1 ∧ cv key Q = false := fun h1 => by
        obtain ⟨h2, h3⟩ := nxF_got hp.2.2.2.1 h1
        have h4 : (pgC P Q C).la = false := by
          unfold cv at h3; simp at h3; exact h3.1
        obtain ⟨h5, h6⟩ := hp.2.2.2.2 h4
        have hC := N.c
        refine ⟨by rw [h2]; exact h6, by omega, ?_⟩
        unfold Proofs.YtkpbbnpfdighjaaGreat.pgC at h3
        rw [if_neg h5] at h3
        exact h3
      refine ⟨⟨h.ok, h.ph, fun _ => ⟨by show Asc (got (pgC P Q C) ((pgC P Q C).xs.length + 3)).xs; rw [hxs]; exact hp.2.2.1, ?_⟩⟩, ?_⟩
      · show (nxF key 0 (got (pgC P Q C) ((pgC P Q C).xs.length + 3)).pg).1 = 1 → (nxF key 0 (got (pgC P Q C) ((pgC P Q C).xs.length + 3)).pg).2.1 ≠ 0
        rw [hpg]
        intro h1; rw [(hnx h1).1]; decide
      · rw [fdo_got hp.2.2.2.1]
        by_cases hc : cv key (pgC P Q C) = true
        · rw [if_pos hc]
          exact .inr ⟨1, _, rfl, .inl rfl⟩
        · rw [if_neg hc]
          have h3 : cv key (pgC P Q C) = false := by simpa using hc
          have h4 : (pgC P Q C).la = false := by
            unfold cv at h3; simp at h3; exact h3.1
          obtain ⟨h5, h6⟩ := hp.2.2.2.2 h4
          have hC := N.c
          rw [h6]
          refine .inl (.two (j := 0) (by omega) ?_ (.inl ⟨rfl, rfl⟩) (by omega))
          unfold Proofs.YtkpbbnpfdighjaaGreat.pgC at h3
          rw [if_neg h5] at h3
          exact h3
    · have h3 : (rgo F 1 l y).ph ≠ 3 := by have := h'.ph; omega
      have e1 : fdo key 0 1 (rgo F 1 l y) = .rd 1 (rgo F 1 l y) := if_neg h3
      rw [e1]
      exact ⟨⟨h.ok, h.ph, fun e => absurd e h3⟩, .inl (.one h')⟩
  | two hC hk h hj =>
    rename_i y j
    obtain ⟨hH, hw⟩ := N.two hC
    obtain ⟨ho, hp⟩ := h.ok S.gr.2.1
    show (Okr F y ∧ y.ph < 3 ∧ ((rgo F 2 l y).ph = 3 → Asc (rgo F 2 l y).s.xs ∧ ((nxF key 0 (rgo F 2 l y).s.pg).1 = 1 → (nxF key 0 (rgo F 2 l y).s.pg).2.1 ≠ 0))) ∧ (FX F key P Q R C ch (fdo key 0 2 (rgo F 2 l y)) ∨ ∃ n y9, fdo key 0 2 (rgo F 2 l y) = .arr n y9 ∧ _)
    rcases h.step N.nats hH S.gr.1 S.gr.2.1 hw with ⟨h1, h2, h3⟩ | ⟨h1, wd, hwd, h2⟩
    · have e1 : fdo key 0 2 (rgo F 2 l y) = .rd 2 (rgo F 2 l y) := if_neg h2
      rw [e1]
      exact ⟨⟨ho, hp, fun e => absurd e h2⟩, .inl (.two hC hk h1 h3)⟩
    · have hpg : (got R (R.xs.length + 3)).pg = R := got_end R
      have hcR : cv key R = true := by unfold cv; rw [S.gr.2.2.2.2]; rfl
      rw [h2]
      refine ⟨⟨ho, hp, fun _ => ⟨?_, ?_⟩⟩, ?_⟩
      · have : (got R (R.xs.length + 3)).pg.xs = R.xs := by rw [hpg]
        show Asc (got R (R.xs.length + 3)).xs
        rw [show (got R (R.xs.length + 3)).xs = R.xs from this]; exact S.gr.2.2.1
      · show (nxF key 0 (got R (R.xs.length + 3)).pg).1 = 1 → _
        rw [hpg]
        intro h4; rw [(nxF_got S.gr.2.2.2.1 h4).2] at hcR; cases hcR
      · rw [fdo_got S.gr.2.2.2.1, if_pos hcR]
        exact .inr ⟨2, _, rfl, .inr ⟨rfl, hC, hk⟩⟩
/-- The owner begins to write. -/
theorem FX.busy (h : FX F key P Q R C ch s) : FX F key P Q R C true s := by
  cases h with
  | root => exact .root
  | one h => exact .one h.busy
  | two hC hk h hj => exact .two hC hk h hj
/-- The owner has written. -/
theorem FX.ended (h : FX F key P Q R 0 ch s) : FX F key P Q R 1 false s := by
  cases h with
  | root => exact .root
  | one h => exact .one (Rv.le h.ended (Nat.zero_le _))
  | two hC hk h hj => exact absurd hC (by decide)
/-- How many steps a Find makes at most, once node 1 has been written. -/
def dOne (F : Nat) (y : Rst) : Nat := (if y.ph = 0 then F + 5 else if y.ph = 1 then F + 4 - y.s.rd else 1) + (if y.ph ≠ 0 ∧ y.wd / 2 = 0 then F + 5 else 0)
theorem Rv.less {y : Rst} {X : Pg} (h : Rv F X 1 false 0 y) (hc : Nd1 F l X 1 false) (hn : Nats l) (hw : Wf X) (hF : X.xs.length ≤ F) :
    (∃ b0 : Nat, b0 ≤ 1 ∧ rgo F 1 l y = ⟨3, b0 + 4 * 1, got X (X.xs.length + 3)⟩) ∨ (Rv F X 1 false 0 (rgo F 1 l y) ∧ dOne F (rgo F 1 l y) + 1 ≤ dOne F y) := by
  rcases h.step hc hn hw hF with h1 | h1
  · exact .inl h1
  · have hok := h.ok
    have hok1 := h1.ok
    have hmid := h.mid
    obtain ⟨ph, wd, s⟩ := y
    have hph : ph < 3 := h.ph
    simp only at hmid
    obtain ⟨-, b0, hb0, hw0⟩ := hc.still rfl
    have hw1 : (cellAt l (nla F 1)).1.toNat = b0 + 4 * 1 := by rw [hw0]; rfl
    rcases (by omega : ph = 0 ∨ ph = 1 ∨ ph = 2) with rfl | rfl | rfl
    · refine .inr ⟨h1, ?_⟩
      have e : rgo F 1 l ⟨0, wd, s⟩ = ⟨1, b0 + 4 * 1, cs0⟩ := by
        unfold rgo rcell raddr
        simp only
        rw [if_pos (by omega), if_neg (by omega)]
        unfold rnext
        simp only
        rw [if_pos trivial, hw1, if_neg (by omega)]
      rw [e]
      unfold dOne
      simp only
      rw [if_neg (by omega), if_pos trivial, if_neg (by omega), if_pos trivial, if_neg (by omega)]
      show F + 4 - 0 + 0 + 1 ≤ _
      omega
    · refine .inr ⟨h1, ?_⟩
      obtain ⟨x, hx⟩ : ∃ x, tk F s (cellAt l (nad F 1 s.rd)).1.toNat (cellAt l (nad F 1 s.rd)).2.1 (cellAt l (nad F 1 s.rd)).2.2.toNat = x := ⟨_, rfl⟩
      have e : rgo F 1 l ⟨1, wd, s⟩ = ⟨if x.rd = x.en then 2 else 1, wd, x⟩ := by
        unfold rgo rcell raddr
        simp only
        rw [if_pos (by omega), if_pos trivial]
        unfold rnext
        simp only
        rw [if_neg (by omega), if_pos trivial, hx]
      have hxr : x.rd = s.rd + 1 := by rw [← hx]; exact tk_rd _ _ _ _ _
      rw [e] at hok1 ⊢
      have hlt : x.rd ≤ F + 3 := hok1.s.lt
      have hb : s.rd + 1 ≤ F + 3 := by omega
      clear hok1 hok hmid hw1 h h1 hc
      unfold dOne
      simp only
      by_cases h2 : x.rd = x.en
      · rw [if_pos h2]
        by_cases h3 : wd / 2 = 0
        · simp [h3]; omega
        · simp [h3]; omega
      · rw [if_neg h2]
        by_cases h3 : wd / 2 = 0
        · simp [h3]; omega
        · simp [h3]; omega
    · obtain ⟨v, hv1, hv2, ⟨b1, hb1, hwd⟩, hv4⟩ := hmid (.inr rfl)
      have e : rgo F 1 l ⟨2, wd, s⟩ = if wd / 2 = (cellAt l (nla F 1)).1.toNat / 2 then ⟨3, wd, s⟩ else ⟨0, wd, s⟩ := by
        unfold rgo rcell raddr
        simp only
        rw [if_pos (by omega), if_neg (by omega)]
        unfold rnext
        simp only
        rw [if_neg (by omega), if_neg (by omega)]
      have hp1 := h1.ph
      rw [e] at hp1
      by_cases hz : wd / 2 = (cellAt l (nla F 1)).1.toNat / 2
      · rw [if_pos hz] at hp1
        exact absurd hp1 (show ¬ (3 : Nat) < 3 by decide)
      · refine .inr ⟨h1, ?_⟩
        rw [e, if_neg hz]
        rw [hw1] at hz
        have hz0 : wd / 2 = 0 := by omega
        unfold dOne
        simp only
        simp [hz0]
        try omega
end

end Go.Proofs.YtkpbbnpfdighjaaGreat
