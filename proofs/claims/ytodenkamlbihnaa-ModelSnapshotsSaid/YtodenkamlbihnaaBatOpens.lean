/-
  What an argument that is a list of writes or of entries looks like in memory. Condition: none beside the form's own reach.
-/
import Derived.Test.YtodenkamlbihnaaRows
import Derived.Test.YtodenkamlbihnaaBatMem
import Derived.ProofKit
import Derived.OpenShut
import Derived.ShutString
import Derived.ChangeOld
import Derived.ChangeSlices
import Derived.Deep.Slices
import Derived.SliceStrings
namespace Go.Proofs.Ytodenkamlbihnaa
open Go.ChangeShapes Go.WideShapes Go.ChangeAt Go.RowKit Go.Deep Plain PlainE
open Go.ChangeMaps (open_string shut_string)
set_option linter.unusedVariables false
theorem list_of {α : Type} (P : Nat → α → Prop) : ∀ (n : Nat), (∀ i, i < n → ∃ c, P i c) → ∃ l : List α, l.length = n ∧ ∀ i c, l[i]? = some c → P i c
  | 0, _ => ⟨[], rfl, fun i c h => by simp at h⟩
  | n + 1, h => by
    obtain ⟨l, hl, hp⟩ := list_of P n (fun i hi => h i (by omega))
    obtain ⟨c, hc⟩ := h n (by omega)
    refine ⟨l ++ [c], by simp [hl], fun i d hd => ?_⟩
    by_cases hi : i < l.length
    · rw [List.getElem?_append_left hi] at hd; exact hp i d hd
    · rw [List.getElem?_append_right (by omega)] at hd
      have : i = l.length := by
        have := (List.getElem?_eq_some_iff.1 hd).1
        simp at this; omega
      subst this
      rw [hl]
      simp at hd; subst hd; exact hc
section
variable {H : Type} {enc : TypeId × Value → H} {W : World}

set_option maxRecDepth 100000 in
theorem elE_of {spare : Nat → Bool} {held : Bool} {base fuel : Nat} {cs : List Value} {x : DataW H × List MemPlace} (h : DataW.trod enc Try.prog W base spare held fuel 57 cs = some x) :
    ∃ (y : Ent), cs = [.string y.1, .string y.2] ∧ y.1.size ≤ maxLen ∧ y.2.size ≤ maxLen := by
  obtain ⟨xs, n, _, hx, hlen, hxl, hf⟩ := DataW.trod_struct Try.underlying57 h
  have e0 : Try.prog.cellsOf 57 = 2 := by kernel_rfl
  have e2 : Try.prog.cellsOf 9 = 1 := by kernel_rfl
  rw [e0] at hlen
  match cs, hlen with
  | [a, b], _ =>
    have h0 : DataW.trod enc Try.prog W base spare held n 9 (([a, b].drop 0).take (Try.prog.cellsOf 9)) = xs[0]? := hf 0 _ rfl
    have h1 : DataW.trod enc Try.prog W base spare held n 9 (([a, b].drop 1).take (Try.prog.cellsOf 9)) = xs[1]? := hf 1 _ rfl
    rw [e2] at h0
    rw [e2] at h1
    have hxl' : xs.length = 2 := hxl
    match xs, hxl' with
    | [x0, x1], _ =>
      simp only [List.getElem?_cons_zero, List.getElem?_cons_succ] at h0 h1
      obtain ⟨K, hK, hK2⟩ := DataW.trod_string Try.underlying9 h0
      obtain ⟨M, hM, hM2⟩ := DataW.trod_string Try.underlying9 h1
      simp at hK hM
      exact ⟨(K, M), by rw [hK, hM], hK2.2, hM2.2⟩

theorem open_ents {a : Option Addr} {len cap : Nat} {d : DataW H} {p : List MemPlace} (h : DataW.Trod enc Try.prog W 0 (fun _ => true) true 53 (.slice a len cap) d p) :
    ∃ xs : List Ent, xs.length = len ∧ len ≤ maxLen ∧ RE W a cap xs ∧ ∀ y ∈ xs, y.1.size ≤ maxLen ∧ y.2.size ≤ maxLen := by
  obtain ⟨fuel, hf⟩ := h
  rcases open_slice Try.underlying53 hf with ⟨hcs, _⟩ | ⟨ad, l, c, m, n, D, Pl, hcs, _, hl, hm, hmm, hx, hel⟩
  · simp [Value.cells] at hcs
    obtain ⟨rfl, rfl, rfl⟩ := hcs
    exact ⟨[], rfl, Nat.zero_le _, RE.nil W, fun y hy => by simp at hy⟩
  · simp [Value.cells] at hcs
    obtain ⟨rfl, rfl, rfl⟩ := hcs
    have hmm' : m = cap := by simpa using hmm
    subst hmm'
    have e0 : Try.prog.cellsOf 57 = 2 := by kernel_rfl
    obtain ⟨L, hL, hP⟩ := list_of (fun i (y : Ent) => i < len ∧ (y.1.size ≤ maxLen ∧ y.2.size ≤ maxLen) ∧ W.cell? (ad.add (i * 2)) = some (.string y.1) ∧ W.cell? ((ad.add (i * 2)).add 1) = some (.string y.2)) len (fun i hi => by
      obtain ⟨cs', hc, ht⟩ := hel i (by omega)
      rw [e0] at hc
      obtain ⟨y, rfl, hs⟩ := elE_of ht
      obtain ⟨_, _, hat⟩ := World.cells?_some hc
      have h0 := hat 0 (by omega)
      rw [Addr.add_zero'] at h0
      exact ⟨y, hi, hs, h0, hat 1 (by omega)⟩)
    refine ⟨L, hL, Nat.le_trans hl hm, ⟨by omega, hm, fun h => (by cases h), fun hpos => ?_⟩, fun y hy => ?_⟩
    · obtain ⟨g, off, spot⟩ := ad
      have hc0 := (hP 0 _ (List.getElem?_eq_getElem hpos)).2.2.1
      have hspot : spot = none := by simpa [Addr.add] using World.cell?_spot hc0
      subst hspot
      refine ⟨g, off, rfl, ?_, fun j u hu => ?_⟩
      · have := World.block_lt_of_cell? W _ hc0
        simpa [Addr.add_lit] using this
      · have hjl := (List.getElem?_eq_some_iff.1 hu).1
        rw [flatE_length] at hjl
        obtain ⟨y, hy⟩ : ∃ y, L[j / 2]? = some y := ⟨_, List.getElem?_eq_getElem (by omega)⟩
        obtain ⟨_, _, p0, p1⟩ := hP _ _ hy
        simp only [Addr.add_lit] at p0 p1
        obtain ⟨f0, f1⟩ := flatE_at L (j / 2) y hy
        rcases (by omega : j % 2 = 0 ∨ j % 2 = 1) with hj | hj
        · rw [show j / 2 * 2 = j by omega] at f0 p0
          rw [f0] at hu; cases hu; exact p0
        · rw [show j / 2 * 2 + 1 = j by omega] at f1
          rw [f1] at hu; cases hu
          rw [show off + j / 2 * 2 + 1 = off + j by omega] at p1; exact p1
    · obtain ⟨i, hi, rfl⟩ := List.getElem_of_mem hy
      exact (hP i _ (List.getElem?_eq_getElem hi)).2.1

set_option maxRecDepth 100000 in
theorem elW_of {spare : Nat → Bool} {held : Bool} {base fuel : Nat} {cs : List Value} {x : DataW H × List MemPlace} (h : DataW.trod enc Try.prog W base spare held fuel 44 cs = some x) :
    ∃ (y : Wri), cs = [.string y.1, .string y.2.1, .bool y.2.2] ∧ y.1.size ≤ maxLen ∧ y.2.1.size ≤ maxLen := by
  obtain ⟨xs, n, _, hx, hlen, hxl, hf⟩ := DataW.trod_struct Try.underlying44 h
  have e0 : Try.prog.cellsOf 44 = 3 := by kernel_rfl
  have e2 : Try.prog.cellsOf 9 = 1 := by kernel_rfl
  have e3 : Try.prog.cellsOf 4 = 1 := by kernel_rfl
  rw [e0] at hlen
  match cs, hlen with
  | [a, b, c], _ =>
    have h0 : DataW.trod enc Try.prog W base spare held n 9 (([a, b, c].drop 0).take (Try.prog.cellsOf 9)) = xs[0]? := hf 0 _ rfl
    have h1 : DataW.trod enc Try.prog W base spare held n 9 (([a, b, c].drop 1).take (Try.prog.cellsOf 9)) = xs[1]? := hf 1 _ rfl
    have h2 : DataW.trod enc Try.prog W base spare held n 4 (([a, b, c].drop 2).take (Try.prog.cellsOf 4)) = xs[2]? := hf 2 _ rfl
    rw [e2] at h0
    rw [e2] at h1
    rw [e3] at h2
    have hxl' : xs.length = 3 := hxl
    match xs, hxl' with
    | [x0, x1, x2], _ =>
      simp only [List.getElem?_cons_zero, List.getElem?_cons_succ] at h0 h1 h2
      obtain ⟨K, hK, hK2⟩ := DataW.trod_string Try.underlying9 h0
      obtain ⟨M, hM, hM2⟩ := DataW.trod_string Try.underlying9 h1
      obtain ⟨D, hD, _⟩ := DataW.trod_bool Try.underlying4 h2
      simp at hK hM hD
      exact ⟨(K, M, D), by rw [hK, hM, hD], hK2.2, hM2.2⟩

theorem open_wris {a : Option Addr} {len cap : Nat} {d : DataW H} {p : List MemPlace} (h : DataW.Trod enc Try.prog W 0 (fun _ => true) true 34 (.slice a len cap) d p) :
    ∃ xs : List Wri, xs.length = len ∧ len ≤ maxLen ∧ RW W a cap xs ∧ ∀ y ∈ xs, y.1.size ≤ maxLen ∧ y.2.1.size ≤ maxLen := by
  obtain ⟨fuel, hf⟩ := h
  rcases open_slice Try.underlying34 hf with ⟨hcs, _⟩ | ⟨ad, l, c, m, n, D, Pl, hcs, _, hl, hm, hmm, hx, hel⟩
  · simp [Value.cells] at hcs
    obtain ⟨rfl, rfl, rfl⟩ := hcs
    exact ⟨[], rfl, Nat.zero_le _, RW.nil W, fun y hy => by simp at hy⟩
  · simp [Value.cells] at hcs
    obtain ⟨rfl, rfl, rfl⟩ := hcs
    have hmm' : m = cap := by simpa using hmm
    subst hmm'
    have e0 : Try.prog.cellsOf 44 = 3 := by kernel_rfl
    obtain ⟨L, hL, hP⟩ := list_of (fun i (y : Wri) => i < len ∧ (y.1.size ≤ maxLen ∧ y.2.1.size ≤ maxLen) ∧ W.cell? (ad.add (i * 3)) = some (.string y.1) ∧ W.cell? ((ad.add (i * 3)).add 1) = some (.string y.2.1) ∧ W.cell? ((ad.add (i * 3)).add 2) = some (.bool y.2.2)) len (fun i hi => by
      obtain ⟨cs', hc, ht⟩ := hel i (by omega)
      rw [e0] at hc
      obtain ⟨y, rfl, hs⟩ := elW_of ht
      obtain ⟨_, _, hat⟩ := World.cells?_some hc
      have h0 := hat 0 (by omega)
      rw [Addr.add_zero'] at h0
      exact ⟨y, hi, hs, h0, hat 1 (by omega), hat 2 (by omega)⟩)
    refine ⟨L, hL, Nat.le_trans hl hm, ⟨by omega, hm, fun h => (by cases h), fun hpos => ?_⟩, fun y hy => ?_⟩
    · obtain ⟨g, off, spot⟩ := ad
      have hc0 := (hP 0 _ (List.getElem?_eq_getElem hpos)).2.2.1
      have hspot : spot = none := by simpa [Addr.add] using World.cell?_spot hc0
      subst hspot
      refine ⟨g, off, rfl, ?_, fun j u hu => ?_⟩
      · have := World.block_lt_of_cell? W _ hc0
        simpa [Addr.add_lit] using this
      · have hjl := (List.getElem?_eq_some_iff.1 hu).1
        rw [flatW_length] at hjl
        obtain ⟨y, hy⟩ : ∃ y, L[j / 3]? = some y := ⟨_, List.getElem?_eq_getElem (by omega)⟩
        obtain ⟨_, _, p0, p1, p2⟩ := hP _ _ hy
        simp only [Addr.add_lit] at p0 p1 p2
        obtain ⟨f0, f1, f2⟩ := flatW_at L (j / 3) y hy
        rcases (by omega : j % 3 = 0 ∨ j % 3 = 1 ∨ j % 3 = 2) with hj | hj | hj
        · rw [show j / 3 * 3 = j by omega] at f0 p0
          rw [f0] at hu; cases hu; exact p0
        · rw [show j / 3 * 3 + 1 = j by omega] at f1
          rw [f1] at hu; cases hu
          rw [show off + j / 3 * 3 + 1 = off + j by omega] at p1; exact p1
        · rw [show j / 3 * 3 + 2 = j by omega] at f2
          rw [f2] at hu; cases hu
          rw [show off + j / 3 * 3 + 2 = off + j by omega] at p2; exact p2
    · obtain ⟨i, hi, rfl⟩ := List.getElem_of_mem hy
      exact (hP i _ (List.getElem?_eq_getElem hi)).2.1
end
end Go.Proofs.Ytodenkamlbihnaa
