/-
  The places of a Lock while the owner of node 1 splits it. No program runs here. Condition: none.
-/
import Derived.Test.YtkpbbnpfdighjaaGreatLkMvt
namespace Go.Proofs.YtkpbbnpfdighjaaGreat
open Go.RowKit Go.Deep Plain
set_option linter.unusedVariables false

section
variable {F : Nat} {l : List Cel} {key : ByteArray} {P Q R X : Pg} {C : Nat} {ch u1 u2 : Bool} {s : Ls}
/-- A step of a Lock that reads the node that it has locked. -/
theorem own_go {n wd r : Nat} (hn : Nats l) (hP : Holds (nad F n) l X) (hw : Wf X) (hF : X.xs.length ≤ F) (hr : r < X.xs.length + 3) :
    Lok F key 0 l (.own n wd (got X r)) ∧ lgo F key 0 l (.own n wd (got X r)) = if r + 1 = X.xs.length + 3 then (if cv key X = true then .lck n wd (got X (X.xs.length + 3)) else .rel n wd (got X (X.xs.length + 3))) else .own n wd (got X (r + 1)) := by
  have hc := nat_toNat (hn (nad F n r))
  have hpc := hP r (by omega)
  have hrd : (got X r).rd = r := rfl
  have ht : tk F (got X r) (cellAt l (nad F n r)).1.toNat (cellAt l (nad F n r)).2.1 (cellAt l (nad F n r)).2.2.toNat = got X (r + 1) := by
    apply tk_got hw hF (by omega)
    rw [← hpc]; exact hc.1
  have e1 : lgo F key 0 l (.own n wd (got X r)) = lown key n wd (got X (r + 1)) := by
    show lown key n wd (tk F (got X r) (cellAt l (nad F n (got X r).rd)).1.toNat (cellAt l (nad F n (got X r).rd)).2.1 (cellAt l (nad F n (got X r).rd)).2.2.toNat) = _
    rw [hrd, ht]
  refine ⟨⟨got_oks hF (by omega), ?_⟩, ?_⟩
  · by_cases h0 : r = 0
    · exact .inl h0
    · refine .inr ?_
      show r < if r = 0 then 0 else X.xs.length + 3
      rw [if_neg h0]; exact hr
  · rw [e1]
    have hgl := got_last (P := X) (r := r) hr
    have h2 : ((got X (r + 1)).rd = (got X (r + 1)).en) ↔ (r + 1 = X.xs.length + 3) := by
      have := hgl; rw [Bool.eq_iff_iff] at this; simpa using this
    by_cases hz : r + 1 = X.xs.length + 3
    · unfold lown
      rw [if_pos (h2.2 hz), hz, if_pos rfl]
      have hla : (got X (X.xs.length + 3)).la = X.la := by show (if X.xs.length + 3 < 2 then false else X.la) = X.la; rw [if_neg (by omega)]
      have hhi : (got X (X.xs.length + 3)).hi = X.hi := by show (if X.xs.length + 3 < 2 then (⟨#[]⟩ : ByteArray) else X.hi) = X.hi; rw [if_neg (by omega)]
      rw [hla, hhi]
      rfl
    · unfold lown
      rw [if_neg (fun e => hz (h2.1 e)), if_neg hz]
/-- It has node n locked. -/
def hasN (n : Nat) : Ls → Bool
  | .own m _ _ => m == n
  | .rel m _ _ => m == n
  | .lck m _ _ => m == n
  | _ => false
/-- The places of the law's Lock: u1, u2: the owner has node 1, node 2 locked. -/
inductive LX (F : Nat) (key : ByteArray) (P Q R : Pg) (C : Nat) (ch u1 u2 : Bool) : Ls → Prop
  | fnd {s : Fs} (h : FX F key P Q R C ch s) : LX F key P Q R C ch u1 u2 (.fnd s)
  | seek1 {N : Nat} {K : ByteArray} {M : Int} (hN : N ≤ 5) : LX F key P Q R C ch u1 u2 (.acq 1 false N K M)
  | go1 (hu : u1 = false) : LX F key P Q R C ch u1 u2 (.acq 1 true 4 ⟨#[]⟩ 0)
  | own1 {r : Nat} (hu : u1 = false) (hr : r < Q.xs.length + 3) : LX F key P Q R C ch u1 u2 (.own 1 5 (got Q r))
  | rel1 (hu : u1 = false) (hk : cv key Q = false) : LX F key P Q R C ch u1 u2 (.rel 1 5 (got Q (Q.xs.length + 3)))
  | seek2 {N : Nat} {K : ByteArray} {M : Int} (hC : C = 1) (hk : cv key Q = false) (hN : N ≤ 1) : LX F key P Q R C ch u1 u2 (.acq 2 false N K M)
  | go2 (hC : C = 1) (hk : cv key Q = false) (hu : u2 = false) : LX F key P Q R C ch u1 u2 (.acq 2 true 0 ⟨#[]⟩ 0)
  | own2 {r : Nat} (hC : C = 1) (hk : cv key Q = false) (hu : u2 = false) (hr : r < R.xs.length + 3) : LX F key P Q R C ch u1 u2 (.own 2 1 (got R r))
  | lck1 (hu : u1 = false) (hk : cv key Q = true) : LX F key P Q R C ch u1 u2 (.lck 1 5 (got Q (Q.xs.length + 3)))
  | lck2 (hC : C = 1) (hk : cv key Q = false) (hu : u2 = false) : LX F key P Q R C ch u1 u2 (.lck 2 1 (got R (R.xs.length + 3)))
/-- What lies in the two latches. -/
structure Lat (F : Nat) (l : List Cel) (C : Nat) (u1 u2 : Bool) (s : Ls) : Prop where
  one : ∃ (w1 : Nat) (K1 : ByteArray) (M1 : Int), w1 ≤ 5 ∧ cellAt l (nla F 1) = ((w1 : Int), K1, M1) ∧ (u1 = true → w1 % 2 = 1) ∧ (u1 = false → C = 1 ∧ (w1 = if hasN 1 s = true then 5 else 4) ∧ K1 = ⟨#[]⟩ ∧ M1 = 0)
  two : C = 1 → cellAt l (nla F 2) = (((if (u2 || hasN 2 s) = true then 1 else 0 : Nat) : Int), (⟨#[]⟩ : ByteArray), (0 : Int))
/-- The latch of node 1 is written by the Lock. -/
theorem Nod.put1 (N : Nod F l P Q R 1 false) (h4 : 4 ≤ F) (h6 : F ≤ 6) (hb : 10 + 100 * (F : Int) + 400 ≤ (l.length : Int)) (S : Spl F P Q R) {v : Nat} (hv : v = 4 ∨ v = 5) : Nod F (putAt l (nla F 1) ((v : Int), ⟨#[]⟩, 0)) P Q R 1 false := by
  have h1 := nla_lo (n := 1) h4 h6 (by omega) (by omega)
  obtain ⟨hH, b0, hb0, hw⟩ := N.nd.still rfl
  obtain ⟨hH2, hw2⟩ := N.two rfl
  refine ⟨N.nats.put _ ⟨v, 0, _, rfl, by omega, by omega⟩, by rw [cellAt_other (by omega)]; exact N.root, ⟨fun _ => ⟨fun r hr => ?_, v - 4, by omega, ?_⟩, fun e => (by cases e)⟩, Nat.le_refl _, fun _ => ⟨fun r hr => ?_, ?_⟩⟩
  · have hq : (pgC P Q 1).xs.length ≤ F := (S.pgC 1).2.1
    rw [cellAt_other (Ne.symm (nad_ne h4 h6 (by omega) (by omega) (by omega)))]; exact hH r hr
  · rw [cellAt_same ⟨by omega, by omega⟩]
    show (v : Int) = _
    omega
  · have hq := S.gr.2.1
    rw [cellAt_other (Ne.symm (nad_ne h4 h6 (by omega) (by omega) (by omega)))]; exact hH2 r hr
  · rw [cellAt_other (nla_ne h4 h6 (by omega) (by omega) (by omega) (by omega) (by omega))]; exact hw2
theorem Nod.put2 (N : Nod F l P Q R 1 false) (h4 : 4 ≤ F) (h6 : F ≤ 6) (hb : 10 + 100 * (F : Int) + 400 ≤ (l.length : Int)) (S : Spl F P Q R) {v : Nat} (hv : v ≤ 1) : Nod F (putAt l (nla F 2) ((v : Int), ⟨#[]⟩, 0)) P Q R 1 false := by
  have h1 := nla_lo (n := 2) h4 h6 (by omega) (by omega)
  obtain ⟨hH, b0, hb0, hw⟩ := N.nd.still rfl
  obtain ⟨hH2, hw2⟩ := N.two rfl
  refine ⟨N.nats.put _ ⟨v, 0, _, rfl, by omega, by omega⟩, by rw [cellAt_other (by omega)]; exact N.root, ⟨fun _ => ⟨fun r hr => ?_, b0, hb0, ?_⟩, fun e => (by cases e)⟩, Nat.le_refl _, fun _ => ⟨fun r hr => ?_, v, hv, ?_⟩⟩
  · have hq : (pgC P Q 1).xs.length ≤ F := (S.pgC 1).2.1
    rw [cellAt_other (Ne.symm (nad_ne h4 h6 (by omega) (by omega) (by omega)))]; exact hH r hr
  · rw [cellAt_other (nla_ne h4 h6 (by omega) (by omega) (by omega) (by omega) (by omega))]; exact hw
  · have hq := S.gr.2.1
    rw [cellAt_other (Ne.symm (nad_ne h4 h6 (by omega) (by omega) (by omega)))]; exact hH2 r hr
  · rw [cellAt_same ⟨by omega, by omega⟩]
theorem Lat.same {s' : Ls} (A : Lat F l C u1 u2 s) (h1 : hasN 1 s' = hasN 1 s) (h2 : hasN 2 s' = hasN 2 s) : Lat F l C u1 u2 s' :=
  ⟨by rw [h1]; exact A.one, by rw [h2]; exact A.two⟩
theorem LX.step (h4 : 4 ≤ F) (h6 : F ≤ 6) (hb : 10 + 100 * (F : Int) + 400 ≤ (l.length : Int)) (S : Spl F P Q R) (N : Nod F l P Q R C ch) (hch : C = 1 → ch = false) (A : Lat F l C u1 u2 s) (h : LX F key P Q R C ch u1 u2 s) (hs : s.fin = false) :
    Lok F key 0 l s ∧ LX F key P Q R C ch u1 u2 (lgo F key 0 l s) ∧ Nod F (lmem F l s) P Q R C ch ∧ Lat F (lmem F l s) C u1 u2 (lgo F key 0 l s) := by
  have n1 := nla_lo (n := 1) h4 h6 (by omega) (by omega)
  have n2 := nla_lo (n := 2) h4 h6 (by omega) (by omega)
  have n12 := nla_ne (F := F) (n := 1) (m := 2) h4 h6 (by omega) (by omega) (by omega) (by omega) (by omega)
  cases h with
  | fnd h =>
    rename_i s
    obtain ⟨hok, hx⟩ := h.step N S
    have e : lgo F key 0 l (.fnd s) = ldo (fgo F key 0 l s) := rfl
    rw [e]
    rcases hx with hx | ⟨n, y, hx, ha⟩
    · generalize fgo F key 0 l s = s' at hx ⊢
      cases hx with
      | root => exact ⟨hok, .fnd .root, N, A.same rfl rfl⟩
      | one h => exact ⟨hok, .fnd (.one h), N, A.same rfl rfl⟩
      | two hC hk h hj => exact ⟨hok, .fnd (.two hC hk h hj), N, A.same rfl rfl⟩
    · rw [hx]
      rcases ha with rfl | ⟨rfl, hC, hk⟩
      · exact ⟨hok, .seek1 (by omega), N, A.same rfl rfl⟩
      · exact ⟨hok, .seek2 hC hk (by omega), N, A.same rfl rfl⟩
  | seek1 hN =>
    rename_i N0 K M
    obtain ⟨w1, K1, M1, hw5, hc, hu, hf⟩ := A.one
    have e : lgo F key 0 l (.acq 1 false N0 K M) = .acq 1 (w1 % 2 == 0) w1 K1 M1 := by
      show Ls.acq 1 ((cellAt l (nla F 1)).1.toNat % 2 == 0) (cellAt l (nla F 1)).1.toNat (cellAt l (nla F 1)).2.1 (cellAt l (nla F 1)).2.2 = _
      rw [hc]; rfl
    rw [e]
    refine ⟨by show N0 < _; omega, ?_, N, A.same rfl rfl⟩
    by_cases h2 : w1 % 2 = 0
    · cases u1 with
      | true => exact absurd (hu rfl) (by omega)
      | false =>
        obtain ⟨-, h3, rfl, rfl⟩ := hf rfl
        have h4' : w1 = 4 := h3
        subst h4'
        exact .go1 rfl
    · have e2 : (w1 % 2 == 0) = false := by simp; omega
      rw [e2]; exact .seek1 hw5
  | go1 hu =>
    subst hu
    obtain ⟨w1, K1, M1, hw5, hc, -, hf⟩ := A.one
    obtain ⟨hC, h3, rfl, rfl⟩ := hf rfl
    have h4' : w1 = 4 := h3
    subst h4'
    have hin : isIn l (nla F 1) = true := by unfold isIn; simp; omega
    have hsw : swaps l (nla F 1) ((4 : Nat) : Int) = true := by unfold swaps; rw [hin, hc]; rfl
    have e1 : lgo F key 0 l (.acq 1 true 4 ⟨#[]⟩ 0) = .own 1 5 (got Q 0) := by
      show (if swaps l (nla F 1) ((4 : Nat) : Int) then Ls.own 1 (lockW 4) cs0 else _) = _
      rw [hsw, got_zero]; rfl
    have e2 : lmem F l (.acq 1 true 4 ⟨#[]⟩ 0) = putAt l (nla F 1) (((5 : Nat) : Int), ⟨#[]⟩, 0) := by
      show (if swaps l (nla F 1) ((4 : Nat) : Int) then putAt l (nla F 1) ((lockW 4 : Nat), ⟨#[]⟩, 0) else l) = _
      rw [hsw]; rfl
    rw [e1, e2]
    subst hC
    obtain rfl := hch rfl
    refine ⟨by show (4 : Nat) < _; omega, .own1 rfl (by omega), N.put1 h4 h6 hb S (.inr rfl), ⟨⟨5, _, _, by omega, cellAt_same ⟨by omega, by omega⟩ _, (fun e => by cases e), fun _ => ⟨rfl, rfl, rfl, rfl⟩⟩, fun _ => ?_⟩⟩
    rw [cellAt_other n12]; exact A.two rfl
  | own1 hu hr =>
    rename_i r
    subst hu
    obtain ⟨w1, K1, M1, hw5, hc, -, hf⟩ := A.one
    obtain ⟨hC, -⟩ := hf rfl
    subst hC
    obtain rfl := hch rfl
    have hH := (N.nd.still rfl).1
    obtain ⟨hok, e⟩ := own_go (key := key) (n := 1) (wd := 5) N.nats (X := Q) hH S.gq.1 S.gq.2.1 hr
    rw [e]
    refine ⟨hok, ?_⟩
    by_cases hz : r + 1 = Q.xs.length + 3
    · rw [if_pos hz]
      by_cases hk : cv key Q = true
      · rw [if_pos hk]; exact ⟨.lck1 rfl hk, N, A.same rfl rfl⟩
      · rw [if_neg hk]; exact ⟨.rel1 rfl (by simpa using hk), N, A.same rfl rfl⟩
    · rw [if_neg hz]; exact ⟨.own1 rfl (by omega), N, A.same rfl rfl⟩
  | rel1 hu hk =>
    subst hu
    obtain ⟨w1, K1, M1, hw5, hc, -, hf⟩ := A.one
    obtain ⟨hC, -⟩ := hf rfl
    subst hC
    obtain rfl := hch rfl
    have hrt : (got Q (Q.xs.length + 3)).rt = 2 := by show (if Q.xs.length + 3 < 3 then 0 else Q.rt) = 2; rw [if_neg (by omega)]; exact S.gq.2.2.2.2
    have e1 : lgo F key 0 l (.rel 1 5 (got Q (Q.xs.length + 3))) = .acq 2 false 0 ⟨#[]⟩ 0 := by
      show lto (got Q (Q.xs.length + 3)).rt = _
      rw [hrt]; rfl
    have e2 : lmem F l (.rel 1 5 (got Q (Q.xs.length + 3))) = putAt l (nla F 1) (((4 : Nat) : Int), ⟨#[]⟩, 0) := rfl
    rw [e1, e2]
    refine ⟨⟨by omega, got_oks S.gq.2.1 (by omega)⟩, .seek2 rfl hk (by omega), N.put1 h4 h6 hb S (.inl rfl), ⟨⟨4, _, _, by omega, cellAt_same ⟨by omega, by omega⟩ _, (fun e => by cases e), fun _ => ⟨rfl, rfl, rfl, rfl⟩⟩, fun _ => ?_⟩⟩
    rw [cellAt_other n12]; exact A.two rfl
  | seek2 hC hk hN =>
    rename_i N0 K M
    have hc := A.two hC
    have e : lgo F key 0 l (.acq 2 false N0 K M) = .acq 2 ((if (u2 || hasN 2 (.acq 2 false N0 K M)) = true then 1 else 0) % 2 == 0) (if (u2 || hasN 2 (.acq 2 false N0 K M)) = true then 1 else 0) ⟨#[]⟩ 0 := by
      show Ls.acq 2 ((cellAt l (nla F 2)).1.toNat % 2 == 0) (cellAt l (nla F 2)).1.toNat (cellAt l (nla F 2)).2.1 (cellAt l (nla F 2)).2.2 = _
      rw [hc]; rfl
    rw [e]
    refine ⟨by show N0 < _; omega, ?_, N, A.same rfl rfl⟩
    cases u2 with
    | true => exact .seek2 hC hk (Nat.le_refl _)
    | false => exact .go2 hC hk rfl
  | go2 hC hk hu =>
    subst hu
    have hc := A.two hC
    have hin : isIn l (nla F 2) = true := by unfold isIn; simp; omega
    have hsw : swaps l (nla F 2) ((0 : Nat) : Int) = true := by unfold swaps; rw [hin, hc]; rfl
    have e1 : lgo F key 0 l (.acq 2 true 0 ⟨#[]⟩ 0) = .own 2 1 (got R 0) := by
      show (if swaps l (nla F 2) ((0 : Nat) : Int) then Ls.own 2 (lockW 0) cs0 else _) = _
      rw [hsw, got_zero]; rfl
    have e2 : lmem F l (.acq 2 true 0 ⟨#[]⟩ 0) = putAt l (nla F 2) (((1 : Nat) : Int), ⟨#[]⟩, 0) := by
      show (if swaps l (nla F 2) ((0 : Nat) : Int) then putAt l (nla F 2) ((lockW 0 : Nat), ⟨#[]⟩, 0) else l) = _
      rw [hsw]; rfl
    rw [e1, e2]
    subst hC
    obtain rfl := hch rfl
    refine ⟨by show (0 : Nat) < _; omega, .own2 rfl hk rfl (by omega), N.put2 h4 h6 hb S (Nat.le_refl _), ⟨?_, fun _ => cellAt_same ⟨by omega, by omega⟩ _⟩⟩
    rw [cellAt_other (Ne.symm n12)]; exact A.one
  | own2 hC hk hu hr =>
    rename_i r
    subst hu
    have hH := (N.two hC).1
    obtain ⟨hok, e⟩ := own_go (key := key) (n := 2) (wd := 1) N.nats (X := R) hH S.gr.1 S.gr.2.1 hr
    have hcR : cv key R = true := by unfold cv; rw [S.gr.2.2.2.2]; rfl
    rw [e]
    refine ⟨hok, ?_⟩
    by_cases hz : r + 1 = R.xs.length + 3
    · rw [if_pos hz, if_pos hcR]; exact ⟨.lck2 hC hk rfl, N, A.same rfl rfl⟩
    · rw [if_neg hz]; exact ⟨.own2 hC hk rfl (by omega), N, A.same rfl rfl⟩
  | lck1 hu hk => cases hs
  | lck2 hC hk hu => cases hs
end

end Go.Proofs.YtkpbbnpfdighjaaGreat
