/-
  What an argument that is a configuration looks like: six integers and an unsigned one. Condition: none beside the form's own reach.
-/
import Derived.Test.YtfbfhlolnooipaaRows
import Derived.Test.YtfbfhlolnooipaaMemPlain
import Derived.ProofKit
import Derived.OpenShut
import Derived.ShutString
import Derived.ChangeOld
import Derived.ChangeSlices
import Derived.Deep.Slices
namespace Go.Proofs.Ytfbfhlolnooipaa
open Go.ChangeShapes Go.WideShapes Go.ChangeAt Go.RowKit Go.Deep
open Go.ChangeMaps (open_string shut_string)

section
variable {H : Type} {enc : TypeId × Value → H} {W : World}

theorem config_of {spare : Nat → Bool} {held : Bool} {base fuel : Nat} {cs : List Value} {x : DataW H × List MemPlace} (h : DataW.trod enc Try.prog W base spare held fuel 24 cs = some x) :
    ∃ (T S N C R F K : Int), cs = [.int .i64 T, .int .i64 S, .int .i64 N, .int .i64 C, .int .i64 R, .int .i64 F, .int .u64 K] ∧ 0 ≤ K := by
  obtain ⟨xs, n, _, _, hlen, hxl, hf⟩ := DataW.trod_struct Try.underlying24 h
  have e0 : Try.prog.cellsOf 24 = 7 := by kernel_rfl
  have e1 : Try.prog.cellsOf 22 = 1 := by kernel_rfl
  have e2 : Try.prog.cellsOf 3 = 1 := by kernel_rfl
  rw [e0] at hlen
  match cs, hlen with
  | [c0, c1, c2, c3, c4, c5, c6], _ =>
    have h0 : DataW.trod enc Try.prog W base spare held n 3 (([c0, c1, c2, c3, c4, c5, c6].drop 0).take (Try.prog.cellsOf 3)) = xs[0]? := hf 0 _ rfl
    have h1 : DataW.trod enc Try.prog W base spare held n 3 (([c0, c1, c2, c3, c4, c5, c6].drop 1).take (Try.prog.cellsOf 3)) = xs[1]? := hf 1 _ rfl
    have h2 : DataW.trod enc Try.prog W base spare held n 3 (([c0, c1, c2, c3, c4, c5, c6].drop 2).take (Try.prog.cellsOf 3)) = xs[2]? := hf 2 _ rfl
    have h3 : DataW.trod enc Try.prog W base spare held n 3 (([c0, c1, c2, c3, c4, c5, c6].drop 3).take (Try.prog.cellsOf 3)) = xs[3]? := hf 3 _ rfl
    have h4 : DataW.trod enc Try.prog W base spare held n 3 (([c0, c1, c2, c3, c4, c5, c6].drop 4).take (Try.prog.cellsOf 3)) = xs[4]? := hf 4 _ rfl
    have h5 : DataW.trod enc Try.prog W base spare held n 3 (([c0, c1, c2, c3, c4, c5, c6].drop 5).take (Try.prog.cellsOf 3)) = xs[5]? := hf 5 _ rfl
    have h6 : DataW.trod enc Try.prog W base spare held n 22 (([c0, c1, c2, c3, c4, c5, c6].drop 6).take (Try.prog.cellsOf 22)) = xs[6]? := hf 6 _ rfl
    rw [e2] at h0 h1 h2 h3 h4 h5
    rw [e1] at h6
    have hxl' : xs.length = 7 := hxl
    rw [List.getElem?_eq_getElem (by omega)] at h0 h1 h2 h3 h4 h5 h6
    obtain ⟨T, q0, _⟩ := DataW.trod_int Try.underlying3 h0
    obtain ⟨S, q1, _⟩ := DataW.trod_int Try.underlying3 h1
    obtain ⟨N, q2, _⟩ := DataW.trod_int Try.underlying3 h2
    obtain ⟨C, q3, _⟩ := DataW.trod_int Try.underlying3 h3
    obtain ⟨R, q4, _⟩ := DataW.trod_int Try.underlying3 h4
    obtain ⟨F, q5, _⟩ := DataW.trod_int Try.underlying3 h5
    obtain ⟨K, q6, r6⟩ := DataW.trod_int Try.underlying22 h6
    have hw := r6.2
    simp [Lit.wf, IntKind.min, IntKind.max, IntKind.bits, IntKind.signed] at hw
    simp at q0 q1 q2 q3 q4 q5 q6
    exact ⟨T, S, N, C, R, F, K, by rw [q0, q1, q2, q3, q4, q5, q6], by omega⟩

theorem config_value {r : Reach} {b0 : Nat} {v : Value} {d : DataW H} {p : List MemPlace} (hv : Value.okWide Try.prog W r b0 24 v) (h : DataW.Trod enc Try.prog W 0 (fun _ => true) true 24 v d p) :
    ∃ (T S N C R F K : Int), v = .agg #[.int .i64 T, .int .i64 S, .int .i64 N, .int .i64 C, .int .i64 R, .int .i64 F, .int .u64 K] ∧ 0 ≤ K := by
  obtain ⟨cs, rfl, hsz⟩ := okWide_struct Try.underlying24 hv
  obtain ⟨fuel, hf⟩ := h
  obtain ⟨T, S, N, C, R, F, K, e, hK⟩ := config_of hf
  refine ⟨T, S, N, C, R, F, K, ?_, hK⟩
  have : cs.toList = [.int .i64 T, .int .i64 S, .int .i64 N, .int .i64 C, .int .i64 R, .int .i64 F, .int .u64 K] := e
  obtain ⟨l⟩ := cs
  simp only at this
  rw [this]

theorem u64_nonneg {a : Int} (h : (Lit.int .u64 a).wf = true) : 0 ≤ a := by
  simp [Lit.wf, IntKind.min, IntKind.max, IntKind.bits, IntKind.signed] at h; omega

end
end Go.Proofs.Ytfbfhlolnooipaa
