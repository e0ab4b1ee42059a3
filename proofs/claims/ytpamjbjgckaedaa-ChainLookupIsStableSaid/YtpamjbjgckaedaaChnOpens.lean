/-
  What an argument that is a list of steps, a list of bytes or a word looks like in memory. Condition: none beside the form's own reach.
-/
import Derived.Test.YtpamjbjgckaedaaRows
import Derived.Test.YtpamjbjgckaedaaChnRows
import Derived.ProofKit
import Derived.OpenShut
import Derived.ShutString
import Derived.ChangeOld
import Derived.ChangeSlices
import Derived.Deep.Slices
import Derived.SliceStrings
namespace Go.Proofs.Ytpamjbjgckaedaa
open Go.ChangeShapes Go.WideShapes Go.ChangeAt Go.RowKit Go.Deep Plain
open Go.ChangeMaps (open_string shut_string)
set_option linter.unusedVariables false

theorem list_of {α : Type} (P : Nat → α → Prop) : ∀ (n : Nat), (∀ i, i < n → ∃ c, P i c) → ∃ l : List α, l.length = n ∧ ∀ i c, l[i]? = some c → P i c
  | 0, _ => ⟨[], rfl, fun i c h => by simp at h⟩
  | n + 1, h => by
    obtain ⟨l, hl, hp⟩ := list_of P n (fun i hi => h i (by omega))
    obtain ⟨c, hc⟩ := h n (by omega)
    refine ⟨l ++ [c], by simp [hl], fun i d hd => ?_⟩
    by_cases hi : i < l.length
    · rw [List.getElem?_append_left hi] at hd; exact hp i d hd
    · rw [List.getElem?_append_right (by omega)] at hd
      have : i = l.length := by
        have := (List.getElem?_eq_some_iff.1 hd).1
        simp at this; omega
      subst this
      rw [hl]
      simp at hd; subst hd; exact hc
theorem word_of {a : Int} (h : (Lit.int .u64 a).wf = true) : ∃ x : Nat, a = (x : Int) ∧ x < 18446744073709551616 := by
  simp [Lit.wf, IntKind.min, IntKind.max, IntKind.bits, IntKind.signed] at h; exact ⟨a.toNat, by omega, by omega⟩

section
variable {H : Type} {enc : TypeId × Value → H} {W : World}

theorem byte_of {a : Int} (h : (Lit.int .u8 a).wf = true) : ∃ x : Nat, a = (x : Int) ∧ x < 256 := by
  simp [Lit.wf, IntKind.min, IntKind.max, IntKind.bits, IntKind.signed] at h; exact ⟨a.toNat, by omega, by omega⟩
set_option maxRecDepth 100000 in
theorem stp_of {spare : Nat → Bool} {held : Bool} {base fuel : Nat} {cs : List Value} {x : DataW H × List MemPlace} (h : DataW.trod enc Try.prog W base spare held fuel 36 cs = some x) :
    ∃ (y : Stp), cs = stpv y := by
  obtain ⟨xs, n, _, hx, hlen, hxl, hf⟩ := DataW.trod_struct Try.underlying36 h
  have e0 : Try.prog.cellsOf 36 = 4 := by kernel_rfl
  have e1 : Try.prog.cellsOf 3 = 1 := by kernel_rfl
  have e2 : Try.prog.cellsOf 9 = 1 := by kernel_rfl
  have e3 : Try.prog.cellsOf 4 = 1 := by kernel_rfl
  have e4 : Try.prog.cellsOf 5 = 1 := by kernel_rfl
  rw [e0] at hlen
  match cs, hlen with
  | [a, b, c, d], _ =>
    have h0 : DataW.trod enc Try.prog W base spare held n 3 (([a, b, c, d].drop 0).take (Try.prog.cellsOf 3)) = xs[0]? := hf 0 _ rfl
    have h1 : DataW.trod enc Try.prog W base spare held n 9 (([a, b, c, d].drop 1).take (Try.prog.cellsOf 9)) = xs[1]? := hf 1 _ rfl
    have h2 : DataW.trod enc Try.prog W base spare held n 4 (([a, b, c, d].drop 2).take (Try.prog.cellsOf 4)) = xs[2]? := hf 2 _ rfl
    have h3 : DataW.trod enc Try.prog W base spare held n 5 (([a, b, c, d].drop 3).take (Try.prog.cellsOf 5)) = xs[3]? := hf 3 _ rfl
    rw [e1] at h0
    rw [e2] at h1
    rw [e3] at h2
    rw [e4] at h3
    have hxl' : xs.length = 4 := hxl
    match xs, hxl' with
    | [x0, x1, x2, x3], _ =>
      simp only [List.getElem?_cons_zero, List.getElem?_cons_succ] at h0 h1 h2 h3
      obtain ⟨M, hM, hM2⟩ := DataW.trod_int Try.underlying3 h0
      obtain ⟨K, hK, hK2⟩ := DataW.trod_string Try.underlying9 h1
      obtain ⟨D, hD, _⟩ := DataW.trod_bool Try.underlying4 h2
      obtain ⟨L, hL, hL2⟩ := DataW.trod_int Try.underlying5 h3
      obtain ⟨r, hr, _⟩ := byte_of hL2.2
      simp at hK hM hD hL
      exact ⟨(M, K, D, r), by unfold stpv; rw [hK, hM, hD, hL, hr]⟩

theorem open_stps {a : Option Addr} {len cap : Nat} {d : DataW H} {p : List MemPlace} (h : DataW.Trod enc Try.prog W 0 (fun _ => true) true 22 (.slice a len cap) d p) :
    ∃ xs : List Stp, xs.length = len ∧ len ≤ maxLen ∧ Rp W a cap xs := by
  obtain ⟨fuel, hf⟩ := h
  rcases open_slice Try.underlying22 hf with ⟨hcs, _⟩ | ⟨ad, l, c, m, n, D, Pl, hcs, _, hl, hm, hmm, hx, hel⟩
  · simp [Value.cells] at hcs
    obtain ⟨rfl, rfl, rfl⟩ := hcs
    exact ⟨[], rfl, Nat.zero_le _, Rp.nil W⟩
  · simp [Value.cells] at hcs
    obtain ⟨rfl, rfl, rfl⟩ := hcs
    have hmm' : m = cap := by simpa using hmm
    subst hmm'
    have e0 : Try.prog.cellsOf 36 = 4 := by kernel_rfl
    obtain ⟨L, hL, hP⟩ := list_of (fun i (y : Stp) => i < len ∧ W.cell? (ad.add (i * 4)) = some (.int .i64 y.1) ∧ W.cell? ((ad.add (i * 4)).add 1) = some (.string y.2.1) ∧ W.cell? ((ad.add (i * 4)).add 2) = some (.bool y.2.2.1) ∧ W.cell? ((ad.add (i * 4)).add 3) = some (.int .u8 ((y.2.2.2 : Nat) : Int))) len (fun i hi => by
      obtain ⟨cs', hc, ht⟩ := hel i (by omega)
      rw [e0] at hc
      obtain ⟨y, rfl⟩ := stp_of ht
      obtain ⟨_, _, hat⟩ := World.cells?_some hc
      have h0 := hat 0 (by omega)
      rw [Addr.add_zero'] at h0
      exact ⟨y, hi, h0, hat 1 (by omega), hat 2 (by omega), hat 3 (by omega)⟩)
    refine ⟨L, hL, Nat.le_trans hl hm, ⟨by omega, hm, fun hpos => ?_⟩⟩
    obtain ⟨g, off, spot⟩ := ad
    have hc0 := (hP 0 _ (List.getElem?_eq_getElem hpos)).2.1
    have hspot : spot = none := by simpa [Addr.add] using World.cell?_spot hc0
    subst hspot
    refine ⟨g, off, rfl, ?_, fun j y hy => ?_⟩
    · have := World.block_lt_of_cell? W _ hc0
      simpa [Addr.add_lit] using this
    · obtain ⟨_, p0, p1, p2, p3⟩ := hP _ _ hy
      simp only [Addr.add_lit] at p0 p1 p2 p3
      exact ⟨p0, p1, p2, p3⟩
end
end Go.Proofs.Ytpamjbjgckaedaa
