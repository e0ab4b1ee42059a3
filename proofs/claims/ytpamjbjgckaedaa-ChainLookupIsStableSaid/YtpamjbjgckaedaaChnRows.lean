/-
  What a row of steps (of layer 10's statements) looks like in memory. No program is spoken of. Condition: none.
-/
import Derived.Test.YtpamjbjgckaedaaRecMem
namespace Go.Proofs.Ytpamjbjgckaedaa
open Go.RowKit Go.Deep Plain
set_option linter.unusedVariables false

/-- A step: its kind, its value, whether it deletes, its floor. -/
abbrev Stp := Int × ByteArray × Bool × Nat
def stpv (x : Stp) : List Value := [.int .i64 x.1, .string x.2.1, .bool x.2.2.1, .int .u8 ((x.2.2.2 : Nat) : Int)]
/-- A slice that reads as these steps. -/
structure Rp (w : World) (A : Option Addr) (c : Nat) (xs : List Stp) : Prop where
  le : xs.length ≤ c
  max : c ≤ maxLen
  some' : 0 < xs.length → ∃ g off, A = some ⟨g, off, none⟩ ∧ g < w.heap.size ∧ ∀ (i : Nat) (x : Stp), xs[i]? = some x →
    w.cell? ⟨g, off + i * 4, none⟩ = some (.int .i64 x.1) ∧ w.cell? ⟨g, off + i * 4 + 1, none⟩ = some (.string x.2.1) ∧ w.cell? ⟨g, off + i * 4 + 2, none⟩ = some (.bool x.2.2.1) ∧ w.cell? ⟨g, off + i * 4 + 3, none⟩ = some (.int .u8 ((x.2.2.2 : Nat) : Int))
theorem Rp.below {w w' : World} {A : Option Addr} {c : Nat} {xs : List Stp} {B : Nat} (h : Rp w A c xs) (hb : Below B w w') (hB : w.heap.size ≤ B) : Rp w' A c xs :=
  ⟨h.le, h.max, fun hp => by
    obtain ⟨g, off, e, hg, hc⟩ := h.some' hp
    have hk : ∀ p, w'.cell? ⟨g, p, none⟩ = w.cell? ⟨g, p, none⟩ := fun p => hb.cell (p := ⟨g, p, none⟩) (Nat.lt_of_lt_of_le hg hB)
    exact ⟨g, off, e, Nat.lt_of_lt_of_le hg hb.size, fun i x hx => by
      obtain ⟨h0, h1, h2, h3⟩ := hc i x hx
      exact ⟨(hk _).trans h0, (hk _).trans h1, (hk _).trans h2, (hk _).trans h3⟩⟩⟩
theorem Rp.kept {w w' : World} {A : Option Addr} {c : Nat} {xs : List Stp} {Y : Nat → Prop} (h : Rp w A c xs) (hk : Kept Y w w') (hY : ∀ i, i < w.heap.size → ¬ Y i) : Rp w' A c xs := h.below (B := w.heap.size) (hk.below (Nat.le_refl _) (fun i hi => Nat.le_of_not_lt fun hlt => hY i hlt hi)) (Nat.le_refl _)
theorem Rp.at {w : World} {A : Option Addr} {c : Nat} {xs : List Stp} (h : Rp w A c xs) (hp : 0 < xs.length) : ∃ g off, A = some ⟨g, off, none⟩ ∧ g < w.heap.size ∧ ∀ (i : Nat) (x : Stp), xs[i]? = some x →
    w.cell? ⟨g, off + i * 4, none⟩ = some (.int .i64 x.1) ∧ w.cell? ⟨g, off + i * 4 + 1, none⟩ = some (.string x.2.1) ∧ w.cell? ⟨g, off + i * 4 + 2, none⟩ = some (.bool x.2.2.1) ∧ w.cell? ⟨g, off + i * 4 + 3, none⟩ = some (.int .u8 ((x.2.2.2 : Nat) : Int)) := h.some' hp
theorem Rp.nil (w : World) : Rp w none 0 [] := ⟨Nat.le_refl _, Nat.zero_le _, fun h => absurd h (by simp)⟩
end Go.Proofs.Ytpamjbjgckaedaa
