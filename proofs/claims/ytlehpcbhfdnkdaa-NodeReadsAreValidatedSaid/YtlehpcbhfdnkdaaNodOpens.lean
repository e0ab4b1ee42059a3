/-
  What an argument that is a page, a word or a byte looks like in memory. Condition: none beside the form's own reach.
-/
import Derived.Test.YtlehpcbhfdnkdaaRows
import Derived.Test.YtlehpcbhfdnkdaaNodRows
import Derived.ProofKit
import Derived.OpenShut
import Derived.ShutString
import Derived.ChangeOld
import Derived.ChangeSlices
import Derived.Deep.Slices
import Derived.SliceStrings
import Derived.SizedLaws
namespace Go.Proofs.Ytlehpcbhfdnkdaa
open Go.ChangeShapes Go.WideShapes Go.ChangeAt Go.RowKit Go.Deep Plain
open Go.ChangeMaps (open_string shut_string)
set_option linter.unusedVariables false

theorem list_of {α : Type} (P : Nat → α → Prop) : ∀ (n : Nat), (∀ i, i < n → ∃ c, P i c) → ∃ l : List α, l.length = n ∧ ∀ i c, l[i]? = some c → P i c
  | 0, _ => ⟨[], rfl, fun i c h => by simp at h⟩
  | n + 1, h => by
    obtain ⟨l, hl, hp⟩ := list_of P n (fun i hi => h i (by omega))
    obtain ⟨c, hc⟩ := h n (by omega)
    refine ⟨l ++ [c], by simp [hl], fun i d hd => ?_⟩
    by_cases hi : i < l.length
    · rw [List.getElem?_append_left hi] at hd; exact hp i d hd
    · rw [List.getElem?_append_right (by omega)] at hd
      have : i = l.length := by
        have := (List.getElem?_eq_some_iff.1 hd).1
        simp at this; omega
      subst this
      rw [hl]
      simp at hd; subst hd; exact hc
theorem word_of {a : Int} (h : (Lit.int .u64 a).wf = true) : ∃ x : Nat, a = (x : Int) ∧ x < 18446744073709551616 := by
  simp [Lit.wf, IntKind.min, IntKind.max, IntKind.bits, IntKind.signed] at h; exact ⟨a.toNat, by omega, by omega⟩

theorem byte_of {a : Int} (h : (Lit.int .u8 a).wf = true) : ∃ x : Nat, a = (x : Int) ∧ x < 256 := by
  simp [Lit.wf, IntKind.min, IntKind.max, IntKind.bits, IntKind.signed] at h; exact ⟨a.toNat, by omega, by omega⟩
theorem fan (f : Int) : ∃ F : Nat, 4 ≤ F ∧ F ≤ 6 ∧ 4 + f % 3 = (F : Int) := ⟨(4 + f % 3).toNat, by omega, by omega, by omega⟩
section
variable {H : Type} {enc : TypeId × Value → H} {W : World}

set_option maxRecDepth 100000 in
theorem slot_of {spare : Nat → Bool} {held : Bool} {base fuel : Nat} {cs : List Value} {x : DataW H × List MemPlace} (h : DataW.trod enc Try.prog W base spare held fuel 86 cs = some x) :
    ∃ (y : Sl), cs = [.string y.1, .int .u64 (y.2 : Int)] ∧ y.2 < 18446744073709551616 := by
  obtain ⟨xs, n, _, hx, hlen, hxl, hf⟩ := DataW.trod_struct Try.underlying86 h
  have e0 : Try.prog.cellsOf 86 = 2 := by kernel_rfl
  have e1 : Try.prog.cellsOf 22 = 1 := by kernel_rfl
  have e2 : Try.prog.cellsOf 9 = 1 := by kernel_rfl
  rw [e0] at hlen
  match cs, hlen with
  | [a, b], _ =>
    have h0 : DataW.trod enc Try.prog W base spare held n 9 (([a, b].drop 0).take (Try.prog.cellsOf 9)) = xs[0]? := hf 0 _ rfl
    have h1 : DataW.trod enc Try.prog W base spare held n 22 (([a, b].drop 1).take (Try.prog.cellsOf 22)) = xs[1]? := hf 1 _ rfl
    rw [e2] at h0
    rw [e1] at h1
    have hxl' : xs.length = 2 := hxl
    match xs, hxl' with
    | [x0, x1], _ =>
      simp only [List.getElem?_cons_zero, List.getElem?_cons_succ] at h0 h1
      obtain ⟨K, hK, hK2⟩ := DataW.trod_string Try.underlying9 h0
      obtain ⟨M, hM, hM2⟩ := DataW.trod_int Try.underlying22 h1
      obtain ⟨r, hr, hr2⟩ := word_of hM2.2
      simp at hK hM
      exact ⟨(K, r), by rw [hK, hM, hr], hr2⟩

theorem slots_of {base fuel : Nat} {a : Option Addr} {len cap : Nat} {x : DataW H × List MemPlace} (h : DataW.trod enc Try.prog W base (fun _ => true) true fuel 23 [.slice a len cap] = some x) :
    ∃ xs : List Sl, xs.length = len ∧ len ≤ maxLen ∧ Rs W a cap xs ∧ (∀ y ∈ xs, y.2 < 18446744073709551616) := by
  rcases open_slice Try.underlying23 h with ⟨hcs, _⟩ | ⟨ad, l, c, m, n, D, Pl, hcs, _, hl, hm, hmm, hx, hel⟩
  · simp at hcs
    obtain ⟨rfl, rfl, rfl⟩ := hcs
    exact ⟨[], rfl, Nat.zero_le _, Rs.nil W, fun _ h => by simp at h⟩
  · simp at hcs
    obtain ⟨rfl, rfl, rfl⟩ := hcs
    have hmm' : m = cap := by simpa using hmm
    subst hmm'
    have e0 : Try.prog.cellsOf 86 = 2 := by kernel_rfl
    obtain ⟨L, hL, hP⟩ := list_of (fun i (y : Sl) => i < len ∧ W.cell? (ad.add (i * 2)) = some (.string y.1) ∧ W.cell? ((ad.add (i * 2)).add 1) = some (.int .u64 (y.2 : Int)) ∧ y.2 < 18446744073709551616) len (fun i hi => by
      obtain ⟨cs', hc, ht⟩ := hel i (by omega)
      rw [e0] at hc
      obtain ⟨y, rfl, hy1⟩ := slot_of ht
      obtain ⟨_, _, hat⟩ := World.cells?_some hc
      have h0 := hat 0 (by omega)
      rw [Addr.add_zero'] at h0
      exact ⟨y, hi, h0, hat 1 (by omega), hy1⟩)
    have hmem : ∀ y ∈ L, ∃ i, L[i]? = some y := fun y hy => by
      obtain ⟨i, hi, rfl⟩ := List.getElem_of_mem hy
      exact ⟨i, List.getElem?_eq_getElem hi⟩
    refine ⟨L, hL, Nat.le_trans hl hm, ⟨by omega, hm, fun h => (by cases h), fun hpos => ?_⟩, fun y hy => ?_⟩
    · obtain ⟨g, off, spot⟩ := ad
      have hc0 := (hP 0 _ (List.getElem?_eq_getElem hpos)).2.1
      have hspot : spot = none := by simpa [Addr.add] using World.cell?_spot hc0
      subst hspot
      refine ⟨g, off, rfl, ?_, fun j u hu => ?_⟩
      · have := World.block_lt_of_cell? W _ hc0
        simpa [Addr.add_lit] using this
      · have hjl := (List.getElem?_eq_some_iff.1 hu).1
        rw [flat_length] at hjl
        obtain ⟨y, hy⟩ : ∃ y, L[j / 2]? = some y := ⟨_, List.getElem?_eq_getElem (by omega)⟩
        obtain ⟨_, p0, p1, _⟩ := hP _ _ hy
        simp only [Addr.add_lit] at p0 p1
        obtain ⟨f1, f2⟩ := flat_at L (j / 2) y hy
        rcases (by omega : j % 2 = 0 ∨ j % 2 = 1) with hj | hj
        · rw [show j / 2 * 2 = j by omega] at f1 p0
          rw [f1] at hu; cases hu; exact p0
        · rw [show j / 2 * 2 + 1 = j by omega] at f2
          rw [f2] at hu; cases hu
          rw [show off + j / 2 * 2 + 1 = off + j by omega] at p1; exact p1
    · obtain ⟨i, hi⟩ := hmem y hy
      exact (hP i y hi).2.2.2

set_option maxRecDepth 100000 in
theorem npage_value {r : Reach} {b0 : Nat} {v : Value} {d : DataW H} {p : List MemPlace} (hv : Value.okWide Try.prog W r b0 25 v) (h : DataW.Trod enc Try.prog W 0 (fun _ => true) true 25 v d p) :
    ∃ (lv : Int) (A : Option Addr) (n c : Nat) (hi : ByteArray) (la : Bool) (rt : Nat) (xs : List Sl), v = .agg #[.int .i64 lv, .slice A n c, .string hi, .bool la, .int .u64 (rt : Int)] ∧ xs.length = n ∧ n ≤ maxLen ∧ Rs W A c xs ∧
      rt < 18446744073709551616 ∧ (∀ y ∈ xs, y.2 < 18446744073709551616) := by
  obtain ⟨cs, rfl, hsz⟩ := okWide_struct Try.underlying25 hv
  obtain ⟨fuel, hf⟩ := h
  obtain ⟨cl⟩ := cs
  change DataW.trod enc Try.prog W 0 (fun _ => true) true fuel 25 cl = some (d, p) at hf
  obtain ⟨xs, n, _, hx, hlen, hxl, hg⟩ := DataW.trod_struct Try.underlying25 hf
  have e0 : Try.prog.cellsOf 25 = 5 := by kernel_rfl
  have e1 : Try.prog.cellsOf 22 = 1 := by kernel_rfl
  have e2 : Try.prog.cellsOf 9 = 1 := by kernel_rfl
  have e3 : Try.prog.cellsOf 3 = 1 := by kernel_rfl
  have e4 : Try.prog.cellsOf 4 = 1 := by kernel_rfl
  have e5 : Try.prog.cellsOf 23 = 1 := by kernel_rfl
  rw [e0] at hlen
  match cl, hlen with
  | [c0, c1, c2, c3, c4], _ =>
    have h0 : DataW.trod enc Try.prog W 0 (fun _ => true) true n 3 (([c0, c1, c2, c3, c4].drop 0).take (Try.prog.cellsOf 3)) = xs[0]? := hg 0 _ rfl
    have h1 : DataW.trod enc Try.prog W 0 (fun _ => true) true n 23 (([c0, c1, c2, c3, c4].drop 1).take (Try.prog.cellsOf 23)) = xs[1]? := hg 1 _ rfl
    have h2 : DataW.trod enc Try.prog W 0 (fun _ => true) true n 9 (([c0, c1, c2, c3, c4].drop 2).take (Try.prog.cellsOf 9)) = xs[2]? := hg 2 _ rfl
    have h3 : DataW.trod enc Try.prog W 0 (fun _ => true) true n 4 (([c0, c1, c2, c3, c4].drop 3).take (Try.prog.cellsOf 4)) = xs[3]? := hg 3 _ rfl
    have h4 : DataW.trod enc Try.prog W 0 (fun _ => true) true n 22 (([c0, c1, c2, c3, c4].drop 4).take (Try.prog.cellsOf 22)) = xs[4]? := hg 4 _ rfl
    rw [e3] at h0
    rw [e5] at h1
    rw [e2] at h2
    rw [e4] at h3
    rw [e1] at h4
    have hxl' : xs.length = 5 := hxl
    match xs, hxl' with
    | [x0, x1, x2, x3, x4], _ =>
      simp only [List.getElem?_cons_zero, List.getElem?_cons_succ] at h0 h1 h2 h3 h4
      obtain ⟨lv, q0, _⟩ := DataW.trod_int Try.underlying3 h0
      obtain ⟨hi, q2, _⟩ := DataW.trod_string Try.underlying9 h2
      obtain ⟨la, q3, _⟩ := DataW.trod_bool Try.underlying4 h3
      obtain ⟨M, q4, q5⟩ := DataW.trod_int Try.underlying22 h4
      obtain ⟨rt, hrt, hrt2⟩ := word_of q5.2
      simp at q0 q2 q3 q4 h1
      have hsl : ∃ A n c, c1 = .slice A n c := by
        rcases open_slice Try.underlying23 h1 with ⟨hcs, _⟩ | ⟨ad, l, c, m, n, D, Pl, hcs, _⟩
        · simp at hcs; exact ⟨_, _, _, hcs⟩
        · simp at hcs; exact ⟨_, _, _, hcs⟩
      obtain ⟨A, len, c, rfl⟩ := hsl
      obtain ⟨ys, hy1, hy2, hy3, hy4⟩ := slots_of h1
      exact ⟨lv, A, len, c, hi, la, rt, ys, by rw [q0, q2, q3, q4, hrt], hy1, hy2, hy3, hrt2, hy4⟩
end
end Go.Proofs.Ytlehpcbhfdnkdaa
