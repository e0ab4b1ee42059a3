/-
  The start of the law's loop: the pages that the split makes, what lies in the memory, and the world with the machines just made. Condition: a fanout of four to six.
-/
import Derived.Test.YtkpbbnpfdighjaaGreatLkMvw
import Derived.Test.YtkpbbnpfdighjaaGreatLkSplit
namespace Go.Proofs.YtkpbbnpfdighjaaGreat
open Go.RowKit Go.Deep Plain
set_option linter.unusedVariables false

section
variable {F n0 B b g : Nat} {W0 : World} {fb fd : Int} {key : ByteArray} {P Q R : Pg} {x qf qw rr : Nat} {w w' : World} {l : List Cel} {ks : List ByteArray}
/-- The pages of the law. -/
def pgP (ks : List ByteArray) : Pg := ⟨0, ⟨#[]⟩, true, 0, slotsOf ks⟩
def pgQ (ks : List ByteArray) (m : Nat) (sp : ByteArray) : Pg := ⟨0, sp, false, 2, (slotsOf ks).take m⟩
def pgR (ks : List ByteArray) (m : Nat) : Pg := ⟨0, ⟨#[]⟩, true, 0, (slotsOf ks).drop m⟩
theorem slots_asc (ha : ∀ i a b, ks[i]? = some a → ks[i + 1]? = some b → kl a b = true) : Asc (slotsOf ks) := asc_of_get fun i x y hx hy => ha i x.1 y.1 (slotsOf_at hx).1 (slotsOf_at hy).1
theorem asc_sub {xs : List Sl} (h : Asc xs) (m : Nat) : Asc (xs.take m) ∧ Asc (xs.drop m) := by
  have hg : ∀ i x y, xs[i]? = some x → xs[i + 1]? = some y → kl x.1 y.1 = true := fun i x y hx hy => asc_get h (Nat.lt_succ_self i) hx hy
  refine ⟨asc_of_get fun i x y hx hy => ?_, asc_of_get fun i x y hx hy => ?_⟩
  · have h1 := (List.getElem?_eq_some_iff.1 hx).1
    have h2 := (List.getElem?_eq_some_iff.1 hy).1
    rw [List.length_take] at h1 h2
    rw [List.getElem?_take, if_pos (by omega)] at hx hy
    exact hg i x y hx hy
  · rw [List.getElem?_drop] at hx hy
    exact hg (m + i) x y hx (by rw [show m + i + 1 = m + (i + 1) by omega]; exact hy)
theorem slots_ref (h6 : ks.length ≤ 6) : ∀ x ∈ slotsOf ks, x.2 < 18446744073709551616 := fun x hx => by
  obtain ⟨i, hi⟩ := List.getElem?_of_mem hx
  have h1 := (slotsOf_at hi).2
  have h2 := (List.getElem?_eq_some_iff.1 hi).1
  rw [slotsOf_length] at h2; omega
theorem fit_pages (h6 : ks.length ≤ 6) (m : Nat) (sp : ByteArray) : Fits (pgP ks) ∧ Fits (pgQ ks m sp) ∧ Fits (pgR ks m) := by
  have hr := slots_ref h6
  have hl := slotsOf_length ks
  refine ⟨⟨(by show 0 < _; decide), (by show 0 < _; decide), hr, ?_⟩, ⟨(by show 0 < _; decide), (by show 2 < _; decide), fun x hx => hr x (List.mem_of_mem_take hx), ?_⟩, ⟨(by show 0 < _; decide), (by show 0 < _; decide), fun x hx => hr x (List.mem_of_mem_drop hx), ?_⟩⟩
  · show (slotsOf ks).length < _; omega
  · show ((slotsOf ks).take m).length < _; rw [List.length_take]; omega
  · show ((slotsOf ks).drop m).length < _; rw [List.length_drop]; omega
theorem Rs.cap {w : World} {A : Option Addr} {c m : Nat} {xs : List Sl} (h : Rs w A c xs) (h1 : xs.length ≤ m) (h2 : m ≤ c) : Rs w A m xs := by
  refine ⟨h1, by have := h.max; omega, fun hn => ?_, h.some'⟩
  have := h.none' hn; omega
theorem node1_at (h4 : 4 ≤ F) (h6 : F ≤ 6) (w : World) : Calls Tryz.prog 13 #[.agg #[.int .i64 1, .int .i64 2, .int .i64 100, .int .i64 100, .int .i64 200, .int .i64 (F : Int), .int .u64 1000], .int .u64 1, .int .i64 0] w fun e w' => e = .returned (.int .i64 (nla F 1)) ∧ Kept (fun _ => False) w w' :=
  refNode_any 1 2 100 100 200 (F : Int) 1000 1 0 (limF h4 h6) (by omega) (by omega) (by omega) w
end
end Go.Proofs.YtkpbbnpfdighjaaGreat
