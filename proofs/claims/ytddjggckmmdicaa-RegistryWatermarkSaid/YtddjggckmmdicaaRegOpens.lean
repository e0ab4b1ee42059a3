/-
  What an argument that is a word, a byte or a list of bytes looks like. Condition: none beside the form's own reach.
-/
import Derived.Test.YtddjggckmmdicaaRows
import Derived.Test.YtddjggckmmdicaaMemPlain
import Derived.ProofKit
import Derived.OpenShut
import Derived.ShutString
import Derived.ChangeOld
import Derived.ChangeSlices
import Derived.Deep.Slices
namespace Go.Proofs.Ytddjggckmmdicaa
open Go.ChangeShapes Go.WideShapes Go.ChangeAt Go.RowKit Go.Deep
open Go.ChangeMaps (open_string shut_string)

theorem word_of {a : Int} (h : (Lit.int .u64 a).wf = true) : ∃ x : Nat, a = (x : Int) ∧ x < 18446744073709551616 := by
  simp [Lit.wf, IntKind.min, IntKind.max, IntKind.bits, IntKind.signed] at h; exact ⟨a.toNat, by omega, by omega⟩
theorem byte_of {a : Int} (h : (Lit.int .u8 a).wf = true) : ∃ x : Nat, a = (x : Int) ∧ x < 256 := by
  simp [Lit.wf, IntKind.min, IntKind.max, IntKind.bits, IntKind.signed] at h; exact ⟨a.toNat, by omega, by omega⟩

section
variable {H : Type} {enc : TypeId × Value → H} {W : World}

theorem open_u64s {a : Option Addr} {len cap : Nat} {d : DataW H} {p : List MemPlace} (h : DataW.Trod enc Try.prog W 0 (fun _ => true) true 23 (.slice a len cap) d p) :
    ∃ ps : List Nat, ps.length = len ∧ len ≤ maxLen ∧ (∀ x ∈ ps, x < 18446744073709551616) ∧
      (0 < ps.length → ∃ g off, a = some ⟨g, off, none⟩ ∧ g < W.heap.size ∧ ∀ (j x : Nat), ps[j]? = some x → W.cell? ⟨g, off + j, none⟩ = some (.int .u64 (x : Int))) := by
  obtain ⟨fuel, hf⟩ := h
  rcases open_ints Try.underlying23 Try.underlying22 (by kernel_rfl) hf with ⟨hcs, _⟩ | ⟨x, l, c, zs, hcs, _, hl, hm, hz, _, hcell, hwf⟩
  · simp [Value.cells] at hcs
    obtain ⟨rfl, rfl, rfl⟩ := hcs
    exact ⟨[], rfl, Nat.zero_le _, fun x hx => by simp at hx, fun h => absurd h (by simp)⟩
  · simp [Value.cells] at hcs
    obtain ⟨rfl, rfl, rfl⟩ := hcs
    have hz' : zs.length = cap := by simpa using hz
    have hr : ∀ z ∈ zs, 0 ≤ z ∧ z < 18446744073709551616 := fun z hz => by
      have := hwf z hz
      simp [Lit.wf, IntKind.min, IntKind.max, IntKind.bits, IntKind.signed] at this
      omega
    refine ⟨(zs.take len).map Int.toNat, by simp; omega, Nat.le_trans hl hm, fun y hy => ?_, fun hpos => ?_⟩
    · obtain ⟨z, hz, rfl⟩ := List.mem_map.1 hy
      have := hr z (List.mem_of_mem_take hz)
      omega
    · have hlen : 0 < len := by simp at hpos; omega
      obtain ⟨g, off, spot⟩ := x
      have hc0 := hcell 0 (by omega)
      have hspot : spot = none := by simpa [Addr.add] using World.cell?_spot hc0
      subst hspot
      refine ⟨g, off, rfl, ?_, fun j x hx => ?_⟩
      · have := World.block_lt_of_cell? W _ hc0
        simpa [Addr.add_lit] using this
      · rw [List.getElem?_map, List.getElem?_take] at hx
        split at hx
        · rename_i hj
          have hjz : j < zs.length := by omega
          rw [List.getElem?_eq_getElem hjz] at hx
          simp at hx
          have hh := hcell j hjz
          rw [Addr.add_lit, List.getD_eq_getElem?_getD, List.getElem?_eq_getElem hjz] at hh
          have := hr _ (List.getElem_mem hjz)
          rw [hh, ← hx]
          simp only [Option.getD_some]
          rw [Int.toNat_of_nonneg this.1]
        · simp at hx

theorem Try.cells5one : Try.prog.cellsOf 5 = 1 := by kernel_rfl
end
end Go.Proofs.Ytddjggckmmdicaa
