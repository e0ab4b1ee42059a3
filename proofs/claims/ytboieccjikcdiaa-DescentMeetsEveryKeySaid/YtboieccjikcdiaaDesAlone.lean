/-
  A Read that runs alone: its state after so many steps, and when it has finished. Condition: a fanout of 4 to 6.
-/
import Derived.Test.YtboieccjikcdiaaDesAds
namespace Go.Proofs.Ytboieccjikcdiaa
open Go.RowKit Go.Deep Plain
set_option linter.unusedVariables false

/-- A Read of node nid in a small configuration. -/
abbrev Rd (Z : Nat → Prop) (w : World) (F : Nat) (fb fd : Int) (q nid : Nat) (y : Rst) : Prop := Con Z w 1 2 100 100 200 F 1000 10 fb fd q 121 nid y.s (rtl y)
/-- The cell that a Read loads next. -/
def rcell (F nid : Nat) (l : List Cel) (y : Rst) : Cel := cellAt l (raddr (nla F nid) (nad F nid) y)
/-- A Read's next state in this memory. -/
def rgo (F nid : Nat) (l : List Cel) (y : Rst) : Rst := if y.ph < 3 then rnext F y (rcell F nid l y).1.toNat (rcell F nid l y).2.1 (rcell F nid l y).2.2.toNat else y
theorem rgo_ok {F nid : Nat} {l : List Cel} {y : Rst} (h : Okr F y) (hn : Nats l) : Okr F (rgo F nid l y) := by
  unfold rgo; split
  · exact rnext_ok h (by assumption) (nat_toNat (hn _)).2.1
  · exact h
/-- A step of a Read, whatever its phase. -/
theorem rstep_go (Z : Nat → Prop) (F : Nat) (h4 : 4 ≤ F) (h6 : F ≤ 6) (fb fd : Int) (hd : Reach3 10 fb fd) (q nid : Nat) (y y' : Rst) (w : World) (h : Rd Z w F fb fd q nid y) (hok : Okr F y) (b g : Nat) (l : List Cel) (k k' : Nat) (hm : Mem w b g l k) (hb : ¬ Z b) (hg : ¬ Z g) (hk : k < 9223372036854775808) (hn : Nats l)
    (hy : rgo F nid l y = y') (hk' : (if y.ph < 3 then k + 1 else k) = k') (r : Bool) (hr : (y'.ph == 3) = r) :
    Calls Try.prog 54 #[.pointer (some ⟨q, 0, none⟩), .pointer (some ⟨b, 0, none⟩)] w fun e w' => e = .returned (.bool r) ∧ Mem w' b g l k' ∧ ∃ Z', Rd Z' w' F fb fd q nid y' ∧ Kept (fun i => Z i ∨ i = b ∨ i = g) w w' ∧ (∀ i, Z' i → Z i ∨ w.heap.size ≤ i) := by
  by_cases hp : y.ph < 3
  · unfold rgo at hy
    rw [if_pos hp] at hy hk'
    subst hk'
    have hc := nat_toNat (hn (raddr (nla F nid) (nad F nid) y))
    exact rstep_any Z 1 2 100 100 200 F 1000 10 fb fd (limF h4 h6) hd q nid y y' w h hok b g l k hm hb hg hk (raddr (nla F nid) (nad F nid) y) rfl _ _ _ hc.1 hc.2.1 hc.2.2 hp hy r hr
  · unfold rgo at hy
    rw [if_neg hp] at hy hk'
    subst hy hk'
    have h3 : y.ph = 3 := by have := hok.ph; omega
    have hr' : r = true := by rw [← hr, h3]; rfl
    subst hr'
    refine (rstep_done Z 1 2 100 100 200 F 1000 10 fb fd q nid b y w h h3).mono ?_
    rintro e w' ⟨he, rfl⟩
    exact ⟨he, hm, Z, h, Kept.refl _ _, fun i hi => .inl hi⟩
/-- A Read alone: its state after so many steps. -/
def ralone (F nid : Nat) (l : List Cel) : Nat → Rst
  | 0 => rst0
  | k + 1 => rgo F nid l (ralone F nid l k)
theorem ralone_ok {F nid : Nat} {l : List Cel} (hn : Nats l) : ∀ k, Okr F (ralone F nid l k)
  | 0 => okr0 F
  | k + 1 => rgo_ok (ralone_ok hn k) hn
/-- Alone, in a memory where the page lies and the latch isn't changing: it reads the page in as many steps as there are cells, and two. -/
theorem ralone_at {F nid : Nat} {l : List Cel} (hn : Nats l) {P : Pg} (hP : Holds (nad F nid) l P) (hw : Wf P) (hF : P.xs.length ≤ F) {wd : Nat} (hl : (cellAt l (nla F nid)).1 = (wd : Int)) (hch : ¬ wd / 2 % 2 = 1) :
    ∀ k, k ≤ P.xs.length + 3 → ralone F nid l (k + 1) = ⟨if k = P.xs.length + 3 then 2 else 1, wd, got P k⟩
  | 0, _ => by
    have e : (cellAt l (nla F nid)).1.toNat = wd := by rw [hl]; rfl
    rw [if_neg (by omega), got_zero]
    show rgo F nid l rst0 = _
    unfold rgo rcell raddr
    rw [if_pos (show rst0.ph < 3 by decide), if_neg (show ¬ rst0.ph = 1 by decide)]
    unfold rnext
    rw [if_pos (show rst0.ph = 0 from rfl), e, if_neg hch]
  | k + 1, hk => by
    have ih := ralone_at hn hP hw hF hl hch k (by omega)
    rw [if_neg (by omega)] at ih
    show rgo F nid l (ralone F nid l (k + 1)) = _
    rw [ih]
    unfold rgo rcell raddr
    simp only
    rw [if_pos (by omega), if_pos trivial]
    have hrd : (got P k).rd = k := rfl
    rw [hrd]
    have hc := nat_toNat (hn (nad F nid k))
    have hpc := hP k (by omega)
    have ht : tk F (got P k) (cellAt l (nad F nid k)).1.toNat (cellAt l (nad F nid k)).2.1 (cellAt l (nad F nid k)).2.2.toNat = got P (k + 1) := by
      apply tk_got hw hF (by omega)
      rw [← hpc]; exact hc.1
    unfold rnext
    simp only
    rw [if_neg (by omega), if_pos trivial, ht]
    have hgl := got_last (P := P) (r := k) (by omega)
    have h2 : ((got P (k + 1)).rd = (got P (k + 1)).en) ↔ (k + 1 = P.xs.length + 3) := by
      have := hgl; rw [Bool.eq_iff_iff] at this; simpa using this
    by_cases hz : k + 1 = P.xs.length + 3
    · rw [if_pos (h2.2 hz), if_pos hz]
    · rw [if_neg (fun e => hz (h2.1 e)), if_neg hz]
theorem ralone_end {F nid : Nat} {l : List Cel} (hn : Nats l) {P : Pg} (hP : Holds (nad F nid) l P) (hw : Wf P) (hF : P.xs.length ≤ F) {wd : Nat} (hl : (cellAt l (nla F nid)).1 = (wd : Int)) (hch : ¬ wd / 2 % 2 = 1) (j : Nat) :
    ralone F nid l (P.xs.length + 5 + j) = ⟨3, wd, got P (P.xs.length + 3)⟩ := by
  induction j with
  | zero =>
    have h := ralone_at hn hP hw hF hl hch (P.xs.length + 3) (Nat.le_refl _)
    rw [if_pos rfl] at h
    show rgo F nid l (ralone F nid l (P.xs.length + 3 + 1)) = _
    rw [h]
    have e : (cellAt l (nla F nid)).1.toNat = wd := by rw [hl]; rfl
    unfold rgo rcell raddr
    simp only
    rw [if_pos (by omega), if_neg (by omega), e]
    unfold rnext
    simp
  | succ j ih =>
    show rgo F nid l (ralone F nid l (P.xs.length + 5 + j)) = _
    rw [ih]; unfold rgo; rw [if_neg (by simp)]

end Go.Proofs.Ytboieccjikcdiaa
