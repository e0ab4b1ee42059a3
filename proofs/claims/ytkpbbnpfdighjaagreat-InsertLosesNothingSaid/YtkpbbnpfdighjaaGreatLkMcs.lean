/-
  Several Locks side by side in memory, each with blocks of its own, a row of pointers to them and a row of numbers. Condition: none.
-/
import Derived.Test.YtkpbbnpfdighjaaGreatLkSched
import Derived.Test.YtkpbbnpfdighjaaGreatLkAux
import Derived.Deep.AppendLies
namespace Go.Proofs.YtkpbbnpfdighjaaGreat
open Go.RowKit Go.Deep Plain
set_option linter.unusedVariables false

structure Mcs (Bad : Nat → Prop) (B b g : Nat) (wr : World) (F : Nat) (fb fd : Int) (n : Nat) (x : Nat → Nat) (key : Nat → ByteArray) (Z : Nat → Nat → Prop) (s : Nat → Ls) : Prop where
  mach : ∀ i, i < n → LAt (Z i) wr F fb fd (x i) (key i) 0 (s i)
  sep : ∀ i j, i < n → j < n → i ≠ j → ∀ k, Z i k → ¬ Z j k
  lo : ∀ i, i < n → ∀ k, Z i k → B ≤ k ∧ k < wr.heap.size ∧ ¬ Bad k ∧ k ≠ b ∧ k ≠ g
section
variable {Bad Bad' Y : Nat → Prop} {B b g : Nat} {wr w' : World} {F : Nat} {fb fd : Int} {n : Nat} {x : Nat → Nat} {key : Nat → ByteArray} {Z : Nat → Nat → Prop} {s : Nat → Ls}
theorem Mcs.zero : Mcs Bad B b g wr F fb fd 0 x key Z s := ⟨fun i h => by omega, fun i j h => by omega, fun i h => by omega⟩
theorem Mcs.kept (S : Mcs Bad B b g wr F fb fd n x key Z s) (hk : Kept Y wr w') (hY : ∀ i, i < n → ∀ k, Z i k → ¬ Y k) : Mcs Bad B b g w' F fb fd n x key Z s :=
  ⟨fun i hi => (S.mach i hi).kept hk (hY i hi), S.sep, fun i hi k hz => by have h := S.lo i hi k hz; have := hk.size; exact ⟨by omega, by omega, h.2.2.1, by omega, by omega⟩⟩
theorem Mcs.keptF (S : Mcs Bad B b g wr F fb fd n x key Z s) (hk : Kept (fun _ => False) wr w') : Mcs Bad B b g w' F fb fd n x key Z s := S.kept hk (fun _ _ _ _ h => h)
theorem Mcs.bad (S : Mcs Bad B b g wr F fb fd n x key Z s) (hB : ∀ i, i < n → ∀ k, Z i k → ¬ Bad' k) : Mcs Bad' B b g wr F fb fd n x key Z s :=
  ⟨S.mach, S.sep, fun i hi k hz => by have := S.lo i hi k hz; exact ⟨this.1, this.2.1, hB i hi k hz, this.2.2.2⟩⟩
theorem Mcs.step (S : Mcs Bad B b g wr F fb fd n x key Z s) {i : Nat} (hi : i < n) {s' : Ls} (hA : LAt (Zn (Z i) wr w') w' F fb fd (x i) (key i) 0 s') (hk : Kept (fun k => Z i k ∨ k = b ∨ k = g) wr w') (hbad : ∀ k, Bad k → k < wr.heap.size) (hb : b < wr.heap.size) (hg : g < wr.heap.size) (hB : B ≤ wr.heap.size) :
    Mcs Bad B b g w' F fb fd n x key (upd Z i (Zn (Z i) wr w')) (upd s i s') where
  mach := fun j hj => by
    by_cases e : j = i
    · subst e; rw [upd_at, upd_at]; exact hA
    · rw [upd_ne _ _ e, upd_ne _ _ e]
      refine (S.mach j hj).kept hk fun k hz h => ?_
      have h1 := S.lo j hj k hz
      rcases h with h | h | h
      · exact S.sep j i hj hi e k hz h
      · omega
      · omega
  sep := fun a c ha hc hne k hz => by
    by_cases ea : a = i
    · have ec : c ≠ i := by omega
      subst ea
      rw [upd_at] at hz
      rw [upd_ne _ _ ec]
      rcases hz with hz | hz
      · exact S.sep a c ha hc hne k hz
      · intro h; have := S.lo c hc k h; omega
    · rw [upd_ne _ _ ea] at hz
      by_cases ec : c = i
      · subst ec; rw [upd_at]
        intro h
        rcases h with h | h
        · exact S.sep a c ha hc hne k hz h
        · have := S.lo a ha k hz; omega
      · rw [upd_ne _ _ ec]; exact S.sep a c ha hc hne k hz
  lo := fun a ha k hz => by
    have hs := hk.size
    by_cases ea : a = i
    · subst ea; rw [upd_at] at hz
      rcases hz with hz | hz
      · have := S.lo a ha k hz; exact ⟨by omega, by omega, this.2.2.1, by omega, by omega⟩
      · exact ⟨by omega, by omega, fun h => by have := hbad k h; omega, by omega, by omega⟩
    · rw [upd_ne _ _ ea] at hz
      have := S.lo a ha k hz; exact ⟨by omega, by omega, this.2.2.1, by omega, by omega⟩
end
/-- When none has work left, all is as it was. -/
theorem Sch.over {F : Nat} {l0 l : List Cel} {n : Nat} {key : Nat → ByteArray} {t : Nat → Nat} {P : Nat → Pg} {φ : Nat → Nat} {hv : Nat → Int} {s : Nat → Ls} {h : Nat → Bool} (S : Sch F l0 n key t P φ hv s l h) (hz : ∀ n, 1 ≤ n → n ≤ 100 → cellAt l0 (nla F n) = cel0) (h0 : ∀ i, i < n → φ i = 0) : l = l0 :=
  S.lks.eq hz fun m _ _ => by
    cases hm : h m with
    | false => rfl
    | true =>
      obtain ⟨i, hi, ho, -⟩ := S.who m hm
      have := ho.1
      have := h0 i hi
      omega

end Go.Proofs.YtkpbbnpfdighjaaGreat
