/-
  A Find that reads node 1 while a slot is inserted into it, with a split or without: what its page holds. No program runs here. Condition: none.
-/
import Derived.Test.YtkpbbnpfdighjaaGreatLkMvp
import Derived.Test.YtkpbbnpfdighjaaGreatInKit
namespace Go.Proofs.YtkpbbnpfdighjaaGreat
open Go.RowKit Go.Deep Plain
set_option linter.unusedVariables false

/-- P becomes Q at node 1; if Q has a right sibling, it is R at node 2. -/
structure Spi (F : Nat) (P Q R : Pg) : Prop where
  gp : Wf P ∧ P.xs.length ≤ F ∧ Asc P.xs ∧ P.lv = 0 ∧ P.la = true
  gq : Wf Q ∧ Q.xs.length ≤ F ∧ Asc Q.xs ∧ Q.lv = 0 ∧ (Q.la = true ∨ Q.rt = 2)
  gr : Wf R ∧ R.xs.length ≤ F ∧ Asc R.xs ∧ R.lv = 0 ∧ R.la = true
/-- The two nodes behind C changes of node 1; ch: the next one is under way. -/
structure Noi (F : Nat) (l : List Cel) (P Q R : Pg) (C : Nat) (ch : Bool) : Prop where
  nats : Nats l
  root : (cellAt l 0).1 = 1
  nd : Nd1 F l (pgC P Q C) C ch
  c : C ≤ 1
  two : C = 1 → Q.la = false → Holds (nad F 2) l R ∧ ∃ wd : Nat, wd ≤ 1 ∧ (cellAt l (nla F 2)).1 = (wd : Int)
/-- A Find on its way. -/
inductive FI (F : Nat) (key : ByteArray) (P Q R : Pg) (C : Nat) (ch : Bool) : Fs → Prop
  | root : FI F key P Q R C ch .root
  | one {y : Rst} (h : Rv F (pgC P Q C) C ch 0 y) : FI F key P Q R C ch (.rd 1 y)
  | two {y : Rst} {j : Nat} (hC : C = 1) (hk : cv key Q = false) (h : Rj R j y) (hj : j < R.xs.length + 5) : FI F key P Q R C ch (.rd 2 y)
/-- The page with which it may arrive. -/
def Ari (key : ByteArray) (P Q R : Pg) (C n : Nat) (X : Pg) : Prop := (n = 1 ∧ X = pgC P Q C ∧ cv key X = true) ∨ (n = 2 ∧ X = R ∧ C = 1 ∧ cv key Q = false)
section
variable {F : Nat} {l : List Cel} {key : ByteArray} {P Q R : Pg} {C : Nat} {ch : Bool} {s : Fs}
theorem Spi.pgC (S : Spi F P Q R) (C : Nat) : Wf (pgC P Q C) ∧ (pgC P Q C).xs.length ≤ F ∧ Asc (pgC P Q C).xs ∧ (pgC P Q C).lv = 0 ∧ ((pgC P Q C).la = false → C ≠ 0 ∧ (pgC P Q C).rt = 2) := by
  unfold Proofs.YtkpbbnpfdighjaaGreat.pgC
  split
  · exact ⟨S.gp.1, S.gp.2.1, S.gp.2.2.1, S.gp.2.2.2.1, fun h => by rw [S.gp.2.2.2.2] at h; cases h⟩
  · rename_i h0
    exact ⟨S.gq.1, S.gq.2.1, S.gq.2.2.1, S.gq.2.2.2.1, fun h => ⟨h0, by rcases S.gq.2.2.2.2 with h1 | h1; rw [h1] at h; cases h; exact h1⟩⟩
theorem cv_la {X : Pg} (h : cv key X = false) : X.la = false := by
  unfold cv at h; simp at h; exact h.1
theorem FI.step (N : Noi F l P Q R C ch) (S : Spi F P Q R) (h : FI F key P Q R C ch s) :
    Fok F key 0 l s ∧ (FI F key P Q R C ch (fgo F key 0 l s) ∨ ∃ (n wd : Nat) (X : Pg), fgo F key 0 l s = .arr n ⟨3, wd, got X (X.xs.length + 3)⟩ ∧ Ari key P Q R C n X) := by
  cases h with
  | root =>
    have e : (cellAt l 0).1.toNat = 1 := by rw [N.root]; rfl
    refine ⟨by show (cellAt l 0).1.toNat ≠ 0; omega, .inl ?_⟩
    show FI F key P Q R C ch (.rd (cellAt l 0).1.toNat rst0)
    rw [e]
    exact .one (Rv.new (Nat.zero_le _))
  | one h =>
    rename_i y
    have hp := S.pgC C
    show (Okr F y ∧ y.ph < 3 ∧ ((rgo F 1 l y).ph = 3 → Asc (rgo F 1 l y).s.xs ∧ ((nxF key 0 (rgo F 1 l y).s.pg).1 = 1 → (nxF key 0 (rgo F 1 l y).s.pg).2.1 ≠ 0))) ∧ (FI F key P Q R C ch (fdo key 0 1 (rgo F 1 l y)) ∨ ∃ (n wd : Nat) (X : Pg), fdo key 0 1 (rgo F 1 l y) = .arr n ⟨3, wd, got X (X.xs.length + 3)⟩ ∧ _)
    rcases h.step N.nd N.nats hp.1 hp.2.1 with ⟨b0, hb0, e⟩ | h'
    · rw [e]
      have hpg : (got (pgC P Q C) ((pgC P Q C).xs.length + 3)).pg = pgC P Q C := got_end _
      have hxs : (got (pgC P Q C) ((pgC P Q C).xs.length + 3)).xs = (pgC P Q C).xs := by
        have : (got (pgC P Q C) ((pgC P Q C).xs.length + 3)).pg.xs = (pgC P Q C).xs := by rw [hpg]
        exact this
      have hnx : (nxF key 0 (pgC P Q C)).1 = 1 → (nxF key 0 (pgC P Q C)).2.1 = 2 ∧ C = 1 ∧ cv key Q = false := fun h1 => by
        obtain ⟨h2, h3⟩ := nxF_got hp.2.2.2.1 h1
        obtain ⟨h5, h6⟩ := hp.2.2.2.2 (cv_la h3)
        have hC := N.c
        refine ⟨by rw [h2]; exact h6, by omega, ?_⟩
        unfold Proofs.YtkpbbnpfdighjaaGreat.pgC at h3
        rw [if_neg h5] at h3
        exact h3
      refine ⟨⟨h.ok, h.ph, fun _ => ⟨by show Asc (got (pgC P Q C) ((pgC P Q C).xs.length + 3)).xs; rw [hxs]; exact hp.2.2.1, ?_⟩⟩, ?_⟩
      · show (nxF key 0 (got (pgC P Q C) ((pgC P Q C).xs.length + 3)).pg).1 = 1 → (nxF key 0 (got (pgC P Q C) ((pgC P Q C).xs.length + 3)).pg).2.1 ≠ 0
        rw [hpg]
        intro h1; rw [(hnx h1).1]; decide
      · rw [fdo_got hp.2.2.2.1]
        by_cases hc : cv key (pgC P Q C) = true
        · rw [if_pos hc]
          exact .inr ⟨1, _, _, rfl, .inl ⟨rfl, rfl, hc⟩⟩
        · rw [if_neg hc]
          have h3 : cv key (pgC P Q C) = false := by simpa using hc
          obtain ⟨h5, h6⟩ := hp.2.2.2.2 (cv_la h3)
          have hC := N.c
          rw [h6]
          refine .inl (.two (j := 0) (by omega) ?_ (.inl ⟨rfl, rfl⟩) (by omega))
          unfold Proofs.YtkpbbnpfdighjaaGreat.pgC at h3
          rw [if_neg h5] at h3
          exact h3
    · have h3 : (rgo F 1 l y).ph ≠ 3 := by have := h'.ph; omega
      have e1 : fdo key 0 1 (rgo F 1 l y) = .rd 1 (rgo F 1 l y) := if_neg h3
      rw [e1]
      exact ⟨⟨h.ok, h.ph, fun e => absurd e h3⟩, .inl (.one h')⟩
  | two hC hk h hj =>
    rename_i y j
    obtain ⟨hH, hw⟩ := N.two hC (cv_la hk)
    obtain ⟨ho, hp⟩ := h.ok S.gr.2.1
    show (Okr F y ∧ y.ph < 3 ∧ ((rgo F 2 l y).ph = 3 → Asc (rgo F 2 l y).s.xs ∧ ((nxF key 0 (rgo F 2 l y).s.pg).1 = 1 → (nxF key 0 (rgo F 2 l y).s.pg).2.1 ≠ 0))) ∧ (FI F key P Q R C ch (fdo key 0 2 (rgo F 2 l y)) ∨ ∃ (n wd : Nat) (X : Pg), fdo key 0 2 (rgo F 2 l y) = .arr n ⟨3, wd, got X (X.xs.length + 3)⟩ ∧ _)
    rcases h.step N.nats hH S.gr.1 S.gr.2.1 hw with ⟨h1, h2, h3⟩ | ⟨h1, wd, hwd, h2⟩
    · have e1 : fdo key 0 2 (rgo F 2 l y) = .rd 2 (rgo F 2 l y) := if_neg h2
      rw [e1]
      exact ⟨⟨ho, hp, fun e => absurd e h2⟩, .inl (.two hC hk h1 h3)⟩
    · have hpg : (got R (R.xs.length + 3)).pg = R := got_end R
      have hcR : cv key R = true := by unfold cv; rw [S.gr.2.2.2.2]; rfl
      rw [h2]
      refine ⟨⟨ho, hp, fun _ => ⟨?_, ?_⟩⟩, ?_⟩
      · have : (got R (R.xs.length + 3)).pg.xs = R.xs := by rw [hpg]
        show Asc (got R (R.xs.length + 3)).xs
        rw [show (got R (R.xs.length + 3)).xs = R.xs from this]; exact S.gr.2.2.1
      · show (nxF key 0 (got R (R.xs.length + 3)).pg).1 = 1 → _
        rw [hpg]
        intro h4; rw [(nxF_got S.gr.2.2.2.1 h4).2] at hcR; cases hcR
      · rw [fdo_got S.gr.2.2.2.1, if_pos hcR]
        exact .inr ⟨2, _, _, rfl, .inr ⟨rfl, rfl, hC, hk⟩⟩
theorem FI.busy (h : FI F key P Q R C ch s) : FI F key P Q R C true s := by
  cases h with
  | root => exact .root
  | one h => exact .one h.busy
  | two hC hk h hj => exact .two hC hk h hj
theorem FI.ended (h : FI F key P Q R 0 ch s) : FI F key P Q R 1 false s := by
  cases h with
  | root => exact .root
  | one h => exact .one (Rv.le h.ended (Nat.zero_le _))
  | two hC hk h hj => exact absurd hC (by decide)
/-- Alone, behind the insertion, it comes nearer to its end with each step. -/
theorem FI.less (N : Noi F l P Q R 1 false) (S : Spi F P Q R) (h : FI F key P Q R 1 false s) : (∃ n y, fgo F key 0 l s = .arr n y) ∨ dF F (fgo F key 0 l s) + 1 ≤ dF F s := by
  cases h with
  | root =>
    right
    have e : (cellAt l 0).1.toNat = 1 := by rw [N.root]; rfl
    show dF F (.rd (cellAt l 0).1.toNat rst0) + 1 ≤ 3 * F + 20
    rw [e]
    show 2 * F + 14 + dOne F rst0 + 1 ≤ _
    have : dOne F rst0 = F + 5 := by unfold dOne; simp [rst0]
    omega
  | one h =>
    rename_i y
    have hp := S.pgC 1
    show (∃ n y9, fdo key 0 1 (rgo F 1 l y) = .arr n y9) ∨ dF F (fdo key 0 1 (rgo F 1 l y)) + 1 ≤ 2 * F + 14 + dOne F y
    rcases Rv.less h N.nd N.nats hp.1 hp.2.1 with ⟨b0, hb0, e⟩ | ⟨h', hl⟩
    · rw [e, fdo_got hp.2.2.2.1]
      by_cases hc : cv key (pgC P Q 1) = true
      · rw [if_pos hc]
        exact .inl ⟨_, _, rfl⟩
      · rw [if_neg hc]
        have h3 : cv key (pgC P Q 1) = false := by simpa using hc
        rw [(hp.2.2.2.2 (cv_la h3)).2]
        right
        show F + 7 + (F + 5) + 1 ≤ _
        omega
    · have h3 : (rgo F 1 l y).ph ≠ 3 := by have := h'.ph; omega
      have e1 : fdo key 0 1 (rgo F 1 l y) = .rd 1 (rgo F 1 l y) := if_neg h3
      rw [e1]
      right
      show 2 * F + 14 + dOne F (rgo F 1 l y) + 1 ≤ _
      omega
  | two hC hk h hj =>
    rename_i y j
    obtain ⟨hH, hw⟩ := N.two rfl (cv_la hk)
    have hd := h.d S.gr.2.1 hj
    have hF := S.gr.2.1
    show (∃ n y9, fdo key 0 2 (rgo F 2 l y) = .arr n y9) ∨ dF F (fdo key 0 2 (rgo F 2 l y)) + 1 ≤ F + 7 + dTwo F y
    rcases h.step N.nats hH S.gr.1 S.gr.2.1 hw with ⟨h1, h2, h3⟩ | ⟨h1, wd, hwd, h2⟩
    · have e1 : fdo key 0 2 (rgo F 2 l y) = .rd 2 (rgo F 2 l y) := if_neg h2
      have hd1 := h1.d S.gr.2.1 h3
      rw [e1]
      right
      show F + 7 + dTwo F (rgo F 2 l y) + 1 ≤ _
      rw [hd, hd1]
      split <;> split <;> omega
    · have hcR : cv key R = true := by unfold cv; rw [S.gr.2.2.2.2]; rfl
      rw [h2, fdo_got S.gr.2.2.2.1, if_pos hcR]
      exact .inl ⟨_, _, rfl⟩
end

/-- Where the Insert is, as the reader sees it: d steps are left, of which the last WL write node 1. -/
def Cd (d : Nat) : Nat := if d = 0 then 1 else 0
def chd (WL d : Nat) : Bool := decide (0 < d ∧ d < WL)
section
variable {F : Nat} {l : List Cel} {key : ByteArray} {P Q R : Pg} {s : Fs} {WL d : Nat}
theorem FI.next (hW : 2 ≤ WL) (h : FI F key P Q R (Cd d) (chd WL d) s) (hd : 0 < d) : FI F key P Q R (Cd (d - 1)) (chd WL (d - 1)) s := by
  have e0 : Cd d = 0 := if_neg (by omega)
  rw [e0] at h
  by_cases h1 : d = 1
  · subst h1
    have e2 : chd WL (1 - 1) = false := by unfold chd; simp
    rw [e2]
    exact h.ended
  · have e1 : Cd (d - 1) = 0 := if_neg (by omega)
    rw [e1]
    by_cases h2 : chd WL (d - 1) = true
    · rw [h2]; exact h.busy
    · have h3 : chd WL (d - 1) = false := by simpa using h2
      have h4 : chd WL d = false := by
        unfold chd at h3 ⊢
        simp at h3 ⊢
        intro _; have := h3 (by omega); omega
      rw [h3]; rw [h4] at h; exact h
end
end Go.Proofs.YtkpbbnpfdighjaaGreat
