/-
  The owner's changes keep a Lock's place, and once the owner has finished every step makes the Lock's work less. No program runs here. Condition: none.
-/
import Derived.Test.YtkpbbnpfdighjaaGreatLkMvl
namespace Go.Proofs.YtkpbbnpfdighjaaGreat
open Go.RowKit Go.Deep Plain
set_option linter.unusedVariables false

section
variable {F : Nat} {l : List Cel} {key : ByteArray} {P Q R X : Pg} {C : Nat} {ch u1 u2 : Bool} {s : Ls}
/-- The owner begins to write. -/
theorem LX.busy (h : LX F key P Q R C ch u1 u2 s) : LX F key P Q R C true u1 u2 s := by
  cases h with
  | fnd h => exact .fnd h.busy
  | seek1 hN => exact .seek1 hN
  | go1 hu => exact .go1 hu
  | own1 hu hr => exact .own1 hu hr
  | rel1 hu hk => exact .rel1 hu hk
  | seek2 hC hk hN => exact .seek2 hC hk hN
  | go2 hC hk hu => exact .go2 hC hk hu
  | own2 hC hk hu hr => exact .own2 hC hk hu hr
  | lck1 hu hk => exact .lck1 hu hk
  | lck2 hC hk hu => exact .lck2 hC hk hu
/-- The owner has written. -/
theorem LX.ended (h : LX F key P Q R 0 ch true u2 s) : LX F key P Q R 1 false true u2 s := by
  cases h with
  | fnd h => exact .fnd h.ended
  | seek1 hN => exact .seek1 hN
  | go1 hu => cases hu
  | own1 hu hr => cases hu
  | rel1 hu hk => cases hu
  | seek2 hC hk hN => exact absurd hC (by decide)
  | go2 hC hk hu => exact absurd hC (by decide)
  | own2 hC hk hu hr => exact absurd hC (by decide)
  | lck1 hu hk => cases hu
  | lck2 hC hk hu => exact absurd hC (by decide)
/-- The owner releases node 2. -/
theorem LX.free2 (h : LX F key P Q R C ch u1 u2 s) : LX F key P Q R C ch u1 false s := by
  cases h with
  | fnd h => exact .fnd h
  | seek1 hN => exact .seek1 hN
  | go1 hu => exact .go1 hu
  | own1 hu hr => exact .own1 hu hr
  | rel1 hu hk => exact .rel1 hu hk
  | seek2 hC hk hN => exact .seek2 hC hk hN
  | go2 hC hk hu => exact .go2 hC hk rfl
  | own2 hC hk hu hr => exact .own2 hC hk rfl hr
  | lck1 hu hk => exact .lck1 hu hk
  | lck2 hC hk hu => exact .lck2 hC hk rfl
/-- The owner releases node 1. -/
theorem LX.free1 (h : LX F key P Q R C ch u1 u2 s) : LX F key P Q R C ch false u2 s := by
  cases h with
  | fnd h => exact .fnd h
  | seek1 hN => exact .seek1 hN
  | go1 hu => exact .go1 rfl
  | own1 hu hr => exact .own1 rfl hr
  | rel1 hu hk => exact .rel1 rfl hk
  | seek2 hC hk hN => exact .seek2 hC hk hN
  | go2 hC hk hu => exact .go2 hC hk hu
  | own2 hC hk hu hr => exact .own2 hC hk hu hr
  | lck1 hu hk => exact .lck1 rfl hk
  | lck2 hC hk hu => exact .lck2 hC hk hu
/-- How much is left of its work at most. -/
def dTwo (F : Nat) (y : Rst) : Nat := if y.ph = 0 then F + 5 else if y.ph = 1 then F + 4 - y.s.rd else 1
def dF (F : Nat) : Fs → Nat
  | .root => 3 * F + 20
  | .rd n y => if n = 1 then 2 * F + 14 + dOne F y else F + 7 + dTwo F y
  | _ => 0
def dL (F : Nat) : Ls → Nat
  | .fnd s => dF F s
  | .acq n fr _ _ _ => (if n = 1 then F + 7 else 0) + (if fr = true then F + 5 else F + 6)
  | .own n _ s => (if n = 1 then F + 7 else 0) + (F + 4 - s.rd)
  | .rel _ _ _ => F + 7
  | _ => 0
theorem Rj.d {j : Nat} {y : Rst} (h : Rj X j y) (hF : X.xs.length ≤ F) (hj : j < X.xs.length + 5) : dTwo F y = if j = X.xs.length + 4 then 1 else F + 5 - j := by
  rcases h with ⟨rfl, rfl⟩ | ⟨k, wd, rfl, hk, hw, rfl⟩
  · rw [if_neg (by omega)]; rfl
  · unfold dTwo
    simp only
    have hrd : (got X k).rd = k := rfl
    rw [hrd]
    by_cases h3 : k = X.xs.length + 3
    · rw [if_pos h3, if_neg (by omega), if_neg (by omega), if_pos (by omega)]
    · rw [if_neg h3, if_neg (by omega), if_pos rfl, if_neg (by omega)]; omega
theorem FX.less {s : Fs} (N : Nod F l P Q R 1 false) (S : Spl F P Q R) (h : FX F key P Q R 1 false s) : dL F (ldo (fgo F key 0 l s)) + 1 ≤ dF F s := by
  cases h with
  | root =>
    have e : (cellAt l 0).1.toNat = 1 := by rw [N.root]; rfl
    show dF F (.rd (cellAt l 0).1.toNat rst0) + 1 ≤ 3 * F + 20
    rw [e]
    show 2 * F + 14 + dOne F rst0 + 1 ≤ _
    have : dOne F rst0 = F + 5 := by unfold dOne; simp [rst0]
    omega
  | one h =>
    rename_i y
    have hp := S.pgC 1
    show dL F (ldo (fdo key 0 1 (rgo F 1 l y))) + 1 ≤ 2 * F + 14 + dOne F y
    rcases Rv.less h N.nd N.nats hp.1 hp.2.1 with ⟨b0, hb0, e⟩ | ⟨h', hl⟩
    · rw [e, fdo_got hp.2.2.2.1]
      by_cases hc : cv key (pgC P Q 1) = true
      · rw [if_pos hc]
        show (F + 7) + (F + 6) + 1 ≤ _
        omega
      · rw [if_neg hc]
        have h4 : (pgC P Q 1).la = false := by
          have h3 : cv key (pgC P Q 1) = false := by simpa using hc
          unfold cv at h3; simp at h3; exact h3.1
        rw [(hp.2.2.2.2 h4).2]
        show F + 7 + (F + 5) + 1 ≤ _
        omega
    · have h3 : (rgo F 1 l y).ph ≠ 3 := by have := h'.ph; omega
      have e1 : fdo key 0 1 (rgo F 1 l y) = .rd 1 (rgo F 1 l y) := if_neg h3
      rw [e1]
      show 2 * F + 14 + dOne F (rgo F 1 l y) + 1 ≤ _
      omega
  | two hC hk h hj =>
    rename_i y j
    obtain ⟨hH, hw⟩ := N.two rfl
    have hd := h.d S.gr.2.1 hj
    have hF := S.gr.2.1
    show dL F (ldo (fdo key 0 2 (rgo F 2 l y))) + 1 ≤ F + 7 + dTwo F y
    rcases h.step N.nats hH S.gr.1 S.gr.2.1 hw with ⟨h1, h2, h3⟩ | ⟨h1, wd, hwd, h2⟩
    · have e1 : fdo key 0 2 (rgo F 2 l y) = .rd 2 (rgo F 2 l y) := if_neg h2
      have hd1 := h1.d S.gr.2.1 h3
      rw [e1]
      show F + 7 + dTwo F (rgo F 2 l y) + 1 ≤ _
      rw [hd, hd1]
      split <;> split <;> omega
    · have hcR : cv key R = true := by unfold cv; rw [S.gr.2.2.2.2]; rfl
      rw [h2, fdo_got S.gr.2.2.2.1, if_pos hcR]
      show 0 + (F + 6) + 1 ≤ _
      rw [hd, if_pos (by omega)]
      omega
/-- Every step makes its work less. -/
theorem LX.less (S : Spl F P Q R) (N : Nod F l P Q R 1 false) (hb : 10 + 100 * (F : Int) + 400 ≤ (l.length : Int)) (h4 : 4 ≤ F) (h6 : F ≤ 6) (A : Lat F l 1 false false s) (h : LX F key P Q R 1 false false false s) (hs : s.fin = false) : dL F (lgo F key 0 l s) + 1 ≤ dL F s := by
  have n1 := nla_lo (n := 1) h4 h6 (by omega) (by omega)
  have n2 := nla_lo (n := 2) h4 h6 (by omega) (by omega)
  cases h with
  | fnd h => exact h.less N S
  | seek1 hN =>
    obtain ⟨w1, K1, M1, hw5, hc, -, hf⟩ := A.one
    obtain ⟨-, h3, rfl, rfl⟩ := hf rfl
    have h4' : w1 = 4 := h3
    subst h4'
    show dL F (.acq 1 ((cellAt l (nla F 1)).1.toNat % 2 == 0) (cellAt l (nla F 1)).1.toNat (cellAt l (nla F 1)).2.1 (cellAt l (nla F 1)).2.2) + 1 ≤ _
    rw [hc]
    show (F + 7) + (F + 5) + 1 ≤ (F + 7) + (F + 6)
    omega
  | go1 hu =>
    obtain ⟨w1, K1, M1, hw5, hc, -, hf⟩ := A.one
    obtain ⟨-, h3, rfl, rfl⟩ := hf rfl
    have h4' : w1 = 4 := h3
    subst h4'
    have hin : isIn l (nla F 1) = true := by unfold isIn; simp; omega
    have hsw : swaps l (nla F 1) ((4 : Nat) : Int) = true := by unfold swaps; rw [hin, hc]; rfl
    show dL F (if swaps l (nla F 1) ((4 : Nat) : Int) then Ls.own 1 (lockW 4) cs0 else _) + 1 ≤ _
    rw [hsw]
    show (F + 7) + (F + 4 - 0) + 1 ≤ (F + 7) + (F + 5)
    omega
  | own1 hu hr =>
    rename_i r
    have hH := (N.nd.still rfl).1
    obtain ⟨-, e⟩ := own_go (key := key) (n := 1) (wd := 5) N.nats (X := Q) hH S.gq.1 S.gq.2.1 hr
    have hF := S.gq.2.1
    rw [e]
    show _ ≤ (F + 7) + (F + 4 - r)
    by_cases hz : r + 1 = Q.xs.length + 3
    · rw [if_pos hz]
      by_cases hk : cv key Q = true
      · rw [if_pos hk]; show 0 + 1 ≤ _; omega
      · rw [if_neg hk]; show F + 7 + 1 ≤ _; omega
    · rw [if_neg hz]; show (F + 7) + (F + 4 - (r + 1)) + 1 ≤ _; omega
  | rel1 hu hk =>
    have hrt : (got Q (Q.xs.length + 3)).rt = 2 := by show (if Q.xs.length + 3 < 3 then 0 else Q.rt) = 2; rw [if_neg (by omega)]; exact S.gq.2.2.2.2
    show dL F (lto (got Q (Q.xs.length + 3)).rt) + 1 ≤ F + 7
    rw [hrt]
    show 0 + (F + 6) + 1 ≤ _
    omega
  | seek2 hC hk hN =>
    have hc := A.two rfl
    show dL F (.acq 2 ((cellAt l (nla F 2)).1.toNat % 2 == 0) (cellAt l (nla F 2)).1.toNat (cellAt l (nla F 2)).2.1 (cellAt l (nla F 2)).2.2) + 1 ≤ _
    rw [hc]
    show 0 + (F + 5) + 1 ≤ 0 + (F + 6)
    omega
  | go2 hC hk hu =>
    have hc := A.two rfl
    have hin : isIn l (nla F 2) = true := by unfold isIn; simp; omega
    have hsw : swaps l (nla F 2) ((0 : Nat) : Int) = true := by unfold swaps; rw [hin, hc]; rfl
    show dL F (if swaps l (nla F 2) ((0 : Nat) : Int) then Ls.own 2 (lockW 0) cs0 else _) + 1 ≤ _
    rw [hsw]
    show 0 + (F + 4 - 0) + 1 ≤ 0 + (F + 5)
    omega
  | own2 hC hk hu hr =>
    rename_i r
    have hH := (N.two rfl).1
    obtain ⟨-, e⟩ := own_go (key := key) (n := 2) (wd := 1) N.nats (X := R) hH S.gr.1 S.gr.2.1 hr
    have hcR : cv key R = true := by unfold cv; rw [S.gr.2.2.2.2]; rfl
    have hF := S.gr.2.1
    rw [e]
    show _ ≤ 0 + (F + 4 - r)
    by_cases hz : r + 1 = R.xs.length + 3
    · rw [if_pos hz, if_pos hcR]; show 0 + 1 ≤ _; omega
    · rw [if_neg hz]; show 0 + (F + 4 - (r + 1)) + 1 ≤ _; omega
  | lck1 hu hk => cases hs
  | lck2 hC hk hu => cases hs
end

end Go.Proofs.YtkpbbnpfdighjaaGreat
