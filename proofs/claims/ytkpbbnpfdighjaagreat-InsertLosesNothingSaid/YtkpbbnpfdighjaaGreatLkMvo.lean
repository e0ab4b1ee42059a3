/-
  The owner's stores outside node 1, and its releases, as the Lock's places ask for them. No program runs here. Condition: none.
-/
import Derived.Test.YtkpbbnpfdighjaaGreatLkMvd
namespace Go.Proofs.YtkpbbnpfdighjaaGreat
open Go.RowKit Go.Deep Plain
set_option linter.unusedVariables false

section
variable {F : Nat} {l : List Cel} {key : ByteArray} {P Q R X : Pg} {C : Nat} {ch u1 u2 : Bool} {s : Ls}
/-- A store outside node 1 ahead of its change. -/
theorem Nod.far0 (N : Nod F l P Q R 0 ch) (S : Spl F P Q R) {a : Int} {c : Cel} (hc : NatCell c) (ha : a ≠ 0) (h1 : a ≠ nla F 1) (h2 : ∀ r, r < F + 3 → a ≠ nad F 1 r) : Nod F (putAt l a c) P Q R 0 ch := by
  refine ⟨N.nats.put _ hc, by rw [cellAt_other ha]; exact N.root, ⟨fun e => ?_, fun e => by rw [cellAt_other h1]; exact N.nd.busy e⟩, by omega, fun e => absurd e (by decide)⟩
  obtain ⟨hH, hw⟩ := N.nd.still e
  have hq : (pgC P Q 0).xs.length ≤ F := (S.pgC 0).2.1
  exact ⟨fun r hr => by rw [cellAt_other (h2 r (by omega))]; exact hH r hr, by rw [cellAt_other h1]; exact hw⟩
theorem Lat.far0 (A : Lat F l 0 u1 u2 s) {a : Int} (c : Cel) (h1 : a ≠ nla F 1) : Lat F (putAt l a c) 0 u1 u2 s :=
  ⟨by rw [cellAt_other h1]; exact A.one, fun e => absurd e (by decide)⟩
/-- The owner releases node 2. -/
theorem Lat.rel2 (h4 : 4 ≤ F) (h6 : F ≤ 6) (hb : 10 + 100 * (F : Int) + 400 ≤ (l.length : Int)) (A : Lat F l 1 u1 true s) (hs : hasN 2 s = false) : Lat F (putAt l (nla F 2) (((0 : Nat) : Int), ⟨#[]⟩, 0)) 1 u1 false s := by
  have n2 := nla_lo (n := 2) h4 h6 (by omega) (by omega)
  have n12 := nla_ne (F := F) (n := 1) (m := 2) h4 h6 (by omega) (by omega) (by omega) (by omega) (by omega)
  refine ⟨by rw [cellAt_other (Ne.symm n12)]; exact A.one, fun _ => ?_⟩
  rw [cellAt_same ⟨by omega, by omega⟩, hs]
  rfl
/-- The owner releases node 1. -/
theorem Lat.rel1 (h4 : 4 ≤ F) (h6 : F ≤ 6) (hb : 10 + 100 * (F : Int) + 400 ≤ (l.length : Int)) (A : Lat F l 1 u1 u2 s) (hs : hasN 1 s = false) : Lat F (putAt l (nla F 1) (((4 : Nat) : Int), ⟨#[]⟩, 0)) 1 false u2 s := by
  have n1 := nla_lo (n := 1) h4 h6 (by omega) (by omega)
  have n12 := nla_ne (F := F) (n := 1) (m := 2) h4 h6 (by omega) (by omega) (by omega) (by omega) (by omega)
  refine ⟨⟨4, _, _, by omega, cellAt_same ⟨by omega, by omega⟩ _, (fun e => by cases e), fun _ => ⟨rfl, by rw [hs]; rfl, rfl, rfl⟩⟩, fun e => by rw [cellAt_other n12]; exact A.two e⟩
/-- While the owner has a node, the Lock hasn't. -/
theorem LX.not1 (h : LX F key P Q R C ch true u2 s) : hasN 1 s = false := by
  cases h with
  | fnd h => rfl
  | seek1 hN => rfl
  | go1 hu => cases hu
  | own1 hu hr => cases hu
  | rel1 hu hk => cases hu
  | seek2 hC hk hN => rfl
  | go2 hC hk hu => rfl
  | own2 hC hk hu hr => rfl
  | lck1 hu hk => cases hu
  | lck2 hC hk hu => rfl
theorem LX.not2 (h : LX F key P Q R C ch u1 true s) : hasN 2 s = false := by
  cases h with
  | fnd h => rfl
  | seek1 hN => rfl
  | go1 hu => rfl
  | own1 hu hr => rfl
  | rel1 hu hk => rfl
  | seek2 hC hk hN => rfl
  | go2 hC hk hu => cases hu
  | own2 hC hk hu hr => cases hu
  | lck1 hu hk => rfl
  | lck2 hC hk hu => cases hu
/-- Node 1 has been written; node 2 lies there, locked. -/
theorem Nod.written (N : Nats l) (hr : (cellAt l 0).1 = 1) (hd : Nd1 F l Q 1 false) (h2 : Holds (nad F 2) l R) (hw : (cellAt l (nla F 2)).1 = 1) : Nod F l P Q R 1 false :=
  ⟨N, hr, hd, Nat.le_refl _, fun _ => ⟨h2, 1, Nat.le_refl _, hw⟩⟩
/-- While node 1 is written: behind j stores of the Write, ahead of the last. -/
theorem Busy.nod {n0 j : Nat} {ss : List Sto} (B : Busy F n0 l P Q 0 j ss) (ha : Ads F (nla F 1) (nad F 1) n0) (S : Spl F P Q R) (hf : Fits Q) (hj : j < ss.length) (hr : (cellAt l 0).1 = 1) : Nod F l P Q R 0 (decide (0 < j)) ∧ ∀ s, Lat F l 0 true u2 s := by
  have hd := B.cells ha S.gq.2.1 hj
  refine ⟨⟨B.nats hf (by decide), hr, hd, by decide, fun e => absurd e (by decide)⟩, fun s => ⟨?_, fun e => absurd e (by decide)⟩⟩
  obtain ⟨c, hc⟩ : ∃ c, cellAt l (nla F 1) = c := ⟨_, rfl⟩
  obtain ⟨N, K, M⟩ := c
  by_cases h0 : 0 < j
  · have hb := hd.busy (by simpa using h0)
    rw [hc] at hb
    exact ⟨3, K, M, by omega, by rw [hc]; show (N, K, M) = _; rw [show N = 3 from hb]; rfl, fun _ => rfl, fun e => by cases e⟩
  · obtain ⟨l0, rfl, -, h2, -, -⟩ := B.ex
    obtain rfl : j = 0 := by omega
    have h3 : (cellAt (app l0 (ss.take 0)) (nla F 1)).1 = 1 := h2
    rw [hc] at h3
    exact ⟨1, K, M, by omega, by rw [hc]; show (N, K, M) = _; rw [show N = 1 from h3]; rfl, fun _ => rfl, fun e => by cases e⟩
end

end Go.Proofs.YtkpbbnpfdighjaaGreat
