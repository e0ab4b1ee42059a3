/-
  What an argument that is a list of pages or of bytes looks like in memory. Condition: none beside the form's own reach.
-/
import Derived.Test.YtlehpcbhfdnkdaaRows
import Derived.Test.YtlehpcbhfdnkdaaNodOpens
import Derived.Test.YtlehpcbhfdnkdaaNodVal
import Derived.ProofKit
import Derived.OpenShut
import Derived.ShutString
import Derived.ChangeOld
import Derived.ChangeSlices
import Derived.Deep.Slices
import Derived.SliceStrings
import Derived.SizedLaws
namespace Go.Proofs.Ytlehpcbhfdnkdaa
open Go.ChangeShapes Go.WideShapes Go.ChangeAt Go.RowKit Go.Deep Plain
open Go.ChangeMaps (open_string shut_string)
set_option linter.unusedVariables false

section
variable {H : Type} {enc : TypeId × Value → H} {W : World}

set_option maxRecDepth 100000 in
theorem page_of {base fuel : Nat} {cs : List Value} {x : DataW H × List MemPlace} (h : DataW.trod enc Try.prog W base (fun _ => true) true fuel 25 cs = some x) :
    ∃ y : Rp, cs = rpc y ∧ Rs W y.A y.c y.xs ∧ y.rt < 18446744073709551616 ∧ (∀ z ∈ y.xs, z.2 < 18446744073709551616) := by
  obtain ⟨xs, n, _, hx, hlen, hxl, hg⟩ := DataW.trod_struct Try.underlying25 h
  have e0 : Try.prog.cellsOf 25 = 5 := by kernel_rfl
  have e1 : Try.prog.cellsOf 22 = 1 := by kernel_rfl
  have e2 : Try.prog.cellsOf 9 = 1 := by kernel_rfl
  have e3 : Try.prog.cellsOf 3 = 1 := by kernel_rfl
  have e4 : Try.prog.cellsOf 4 = 1 := by kernel_rfl
  have e5 : Try.prog.cellsOf 23 = 1 := by kernel_rfl
  rw [e0] at hlen
  match cs, hlen with
  | [c0, c1, c2, c3, c4], _ =>
    have h0 : DataW.trod enc Try.prog W base (fun _ => true) true n 3 (([c0, c1, c2, c3, c4].drop 0).take (Try.prog.cellsOf 3)) = xs[0]? := hg 0 _ rfl
    have h1 : DataW.trod enc Try.prog W base (fun _ => true) true n 23 (([c0, c1, c2, c3, c4].drop 1).take (Try.prog.cellsOf 23)) = xs[1]? := hg 1 _ rfl
    have h2 : DataW.trod enc Try.prog W base (fun _ => true) true n 9 (([c0, c1, c2, c3, c4].drop 2).take (Try.prog.cellsOf 9)) = xs[2]? := hg 2 _ rfl
    have h3 : DataW.trod enc Try.prog W base (fun _ => true) true n 4 (([c0, c1, c2, c3, c4].drop 3).take (Try.prog.cellsOf 4)) = xs[3]? := hg 3 _ rfl
    have h4 : DataW.trod enc Try.prog W base (fun _ => true) true n 22 (([c0, c1, c2, c3, c4].drop 4).take (Try.prog.cellsOf 22)) = xs[4]? := hg 4 _ rfl
    rw [e3] at h0
    rw [e5] at h1
    rw [e2] at h2
    rw [e4] at h3
    rw [e1] at h4
    have hxl' : xs.length = 5 := hxl
    match xs, hxl' with
    | [x0, x1, x2, x3, x4], _ =>
      simp only [List.getElem?_cons_zero, List.getElem?_cons_succ] at h0 h1 h2 h3 h4
      obtain ⟨lv, q0, _⟩ := DataW.trod_int Try.underlying3 h0
      obtain ⟨hi, q2, _⟩ := DataW.trod_string Try.underlying9 h2
      obtain ⟨la, q3, _⟩ := DataW.trod_bool Try.underlying4 h3
      obtain ⟨M, q4, q5⟩ := DataW.trod_int Try.underlying22 h4
      obtain ⟨rt, hrt, hrt2⟩ := word_of q5.2
      simp at q0 q2 q3 q4 h1
      have hsl : ∃ A n c, c1 = .slice A n c := by
        rcases open_slice Try.underlying23 h1 with ⟨hcs, _⟩ | ⟨ad, l, c, m, n, D, Pl, hcs, _⟩
        · simp at hcs; exact ⟨_, _, _, hcs⟩
        · simp at hcs; exact ⟨_, _, _, hcs⟩
      obtain ⟨A, len, c, rfl⟩ := hsl
      obtain ⟨ys, hy1, hy2, hy3, hy4⟩ := slots_of h1
      subst hy1
      exact ⟨⟨lv, A, c, hi, la, rt, ys⟩, by unfold rpc; rw [q0, q2, q3, q4, hrt], hy3, hrt2, hy4⟩
/-- A list of pages. -/
theorem open_npages {a : Option Addr} {len cap : Nat} {d : DataW H} {p : List MemPlace} (h : DataW.Trod enc Try.prog W 0 (fun _ => true) true 61 (.slice a len cap) d p) :
    ∃ rs : List Rp, rs.length = len ∧ Raws W a rs := by
  obtain ⟨fuel, hf⟩ := h
  rcases open_slice Try.underlying61 hf with ⟨hcs, _⟩ | ⟨ad, l, c, m, n, D, Pl, hcs, _, hl, hm, hmm, hx, hel⟩
  · simp [Value.cells] at hcs
    obtain ⟨rfl, rfl, rfl⟩ := hcs
    exact ⟨[], rfl, ⟨fun h => absurd h (by simp), fun _ h => by simp at h, fun _ h => by simp at h, fun _ h => by simp at h⟩⟩
  · simp [Value.cells] at hcs
    obtain ⟨rfl, rfl, rfl⟩ := hcs
    have hmm' : m = cap := by simpa using hmm
    subst hmm'
    have e0 : Try.prog.cellsOf 25 = 5 := by kernel_rfl
    obtain ⟨L, hL, hP⟩ := list_of (fun i (y : Rp) => (∀ (k : Nat) (u : Value), (rpc y)[k]? = some u → W.cell? ((ad.add (i * 5)).add k) = some u) ∧ Rs W y.A y.c y.xs ∧ y.rt < 18446744073709551616 ∧ (∀ z ∈ y.xs, z.2 < 18446744073709551616)) len (fun i hi => by
      obtain ⟨cs', hc, ht⟩ := hel i (by omega)
      rw [e0] at hc
      obtain ⟨y, rfl, hy1, hy2, hy3⟩ := page_of ht
      obtain ⟨_, _, hat⟩ := World.cells?_some hc
      refine ⟨y, fun k u hu => ?_, hy1, hy2, hy3⟩
      have hk : k < 5 := (List.getElem?_eq_some_iff.1 hu).1
      have := hat k hk
      rw [this]
      have hk2 : k < (rpc y).length := (List.getElem?_eq_some_iff.1 hu).1
      rcases (by omega : k = 0 ∨ k = 1 ∨ k = 2 ∨ k = 3 ∨ k = 4) with rfl | rfl | rfl | rfl | rfl <;> (unfold rpc at hu ⊢; simpa using hu))
    have hmem : ∀ y ∈ L, ∃ i, L[i]? = some y := fun y hy => by
      obtain ⟨i, hi, rfl⟩ := List.getElem_of_mem hy
      exact ⟨i, List.getElem?_eq_getElem hi⟩
    refine ⟨L, hL, ⟨fun hpos => ?_, fun y hy => ?_, fun y hy => ?_, fun y hy => ?_⟩⟩
    · obtain ⟨g, off, spot⟩ := ad
      have hc0 := (hP 0 _ (List.getElem?_eq_getElem hpos)).1 0 _ rfl
      have hspot : spot = none := by simpa [Addr.add] using World.cell?_spot hc0
      subst hspot
      refine ⟨g, off, rfl, ?_, fun i k y u hy hu => ?_⟩
      · have := World.block_lt_of_cell? W _ hc0
        simpa [Addr.add_lit] using this
      · have := (hP i y hy).1 k u hu
        rw [Addr.add_lit, Addr.add_lit] at this
        rw [show off + (i * 5 + k) = off + i * 5 + k by omega]; exact this
    · obtain ⟨i, hi⟩ := hmem y hy
      exact (hP i y hi).2.1
    · obtain ⟨i, hi⟩ := hmem y hy
      exact (hP i y hi).2.2.1
    · obtain ⟨i, hi⟩ := hmem y hy
      exact (hP i y hi).2.2.2
/-- A list of bytes. -/
theorem open_u8s {a : Option Addr} {len cap : Nat} {d : DataW H} {p : List MemPlace} (h : DataW.Trod enc Try.prog W 0 (fun _ => true) true 62 (.slice a len cap) d p) :
    ∃ ps : List Nat, ps.length = len ∧ len ≤ maxLen ∧ (∀ x ∈ ps, x < 256) ∧
      (0 < ps.length → ∃ g off, a = some ⟨g, off, none⟩ ∧ g < W.heap.size ∧ ∀ (j x : Nat), ps[j]? = some x → W.cell? ⟨g, off + j, none⟩ = some (.int .u8 (x : Int))) := by
  obtain ⟨fuel, hf⟩ := h
  rcases open_ints Try.underlying62 Try.underlying5 (by kernel_rfl) hf with ⟨hcs, _⟩ | ⟨x, l, c, zs, hcs, _, hl, hm, hz, _, hcell, hwf⟩
  · simp [Value.cells] at hcs
    obtain ⟨rfl, rfl, rfl⟩ := hcs
    exact ⟨[], rfl, Nat.zero_le _, fun x hx => by simp at hx, fun h => absurd h (by simp)⟩
  · simp [Value.cells] at hcs
    obtain ⟨rfl, rfl, rfl⟩ := hcs
    have hz' : zs.length = cap := by simpa using hz
    have hr : ∀ z ∈ zs, 0 ≤ z ∧ z < 256 := fun z hz => by
      have := hwf z hz
      simp [Lit.wf, IntKind.min, IntKind.max, IntKind.bits, IntKind.signed] at this
      omega
    refine ⟨(zs.take len).map Int.toNat, by simp; omega, Nat.le_trans hl hm, fun y hy => ?_, fun hpos => ?_⟩
    · obtain ⟨z, hz, rfl⟩ := List.mem_map.1 hy
      have := hr z (List.mem_of_mem_take hz)
      omega
    · have hlen : 0 < len := by simp at hpos; omega
      obtain ⟨g, off, spot⟩ := x
      have hc0 := hcell 0 (by omega)
      have hspot : spot = none := by simpa [Addr.add] using World.cell?_spot hc0
      subst hspot
      refine ⟨g, off, rfl, ?_, fun j x hx => ?_⟩
      · have := World.block_lt_of_cell? W _ hc0
        simpa [Addr.add_lit] using this
      · rw [List.getElem?_map, List.getElem?_take] at hx
        split at hx
        · rename_i hj
          have hjz : j < zs.length := by omega
          rw [List.getElem?_eq_getElem hjz] at hx
          simp at hx
          have hh := hcell j hjz
          rw [Addr.add_lit, List.getD_eq_getElem?_getD, List.getElem?_eq_getElem hjz] at hh
          have := hr _ (List.getElem_mem hjz)
          rw [hh, ← hx]
          simp only [Option.getD_some]
          rw [Int.toNat_of_nonneg this.1]
        · simp at hx

end
end Go.Proofs.Ytlehpcbhfdnkdaa
