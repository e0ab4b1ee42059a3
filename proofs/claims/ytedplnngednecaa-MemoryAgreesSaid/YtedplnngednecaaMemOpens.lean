/-
  What an argument that is a list of bytes, of cells or of calls, or one cell, looks like in memory. Condition: none beside the form's own reach.
-/
import Derived.Test.YtedplnngednecaaRows
import Derived.Test.YtedplnngednecaaMemPlain
import Derived.ProofKit
import Derived.OpenShut
import Derived.ShutString
import Derived.ChangeOld
import Derived.ChangeSlices
import Derived.Deep.Slices
namespace Go.Proofs.Ytedplnngednecaa
open Go.ChangeShapes Go.WideShapes Go.ChangeAt Go.RowKit Go.Deep
open Go.ChangeMaps (open_string shut_string)

theorem list_of {α : Type} (P : Nat → α → Prop) : ∀ (n : Nat), (∀ i, i < n → ∃ c, P i c) → ∃ l : List α, l.length = n ∧ ∀ i c, l[i]? = some c → P i c
  | 0, _ => ⟨[], rfl, fun i c h => by simp at h⟩
  | n + 1, h => by
    obtain ⟨l, hl, hp⟩ := list_of P n (fun i hi => h i (by omega))
    obtain ⟨c, hc⟩ := h n (by omega)
    refine ⟨l ++ [c], by simp [hl], fun i d hd => ?_⟩
    by_cases hi : i < l.length
    · rw [List.getElem?_append_left hi] at hd; exact hp i d hd
    · rw [List.getElem?_append_right (by omega)] at hd
      have : i = l.length := by
        have := (List.getElem?_eq_some_iff.1 hd).1
        simp at this; omega
      subst this
      rw [hl]
      simp at hd; subst hd; exact hc

section
variable {H : Type} {enc : TypeId × Value → H} {W : World}

theorem open_u8s {a : Option Addr} {len cap : Nat} {d : DataW H} {p : List MemPlace} (h : DataW.Trod enc Try.prog W 0 (fun _ => true) true 47 (.slice a len cap) d p) :
    ∃ ps : List Nat, ps.length = len ∧ len ≤ maxLen ∧ (∀ x ∈ ps, x < 256) ∧
      (0 < ps.length → ∃ g off, a = some ⟨g, off, none⟩ ∧ g < W.heap.size ∧ ∀ (j x : Nat), ps[j]? = some x → W.cell? ⟨g, off + j, none⟩ = some (.int .u8 (x : Int))) := by
  obtain ⟨fuel, hf⟩ := h
  rcases open_ints Try.underlying47 Try.underlying5 (by kernel_rfl) hf with ⟨hcs, _⟩ | ⟨x, l, c, zs, hcs, _, hl, hm, hz, _, hcell, hwf⟩
  · simp [Value.cells] at hcs
    obtain ⟨rfl, rfl, rfl⟩ := hcs
    exact ⟨[], rfl, Nat.zero_le _, fun x hx => by simp at hx, fun h => absurd h (by simp)⟩
  · simp [Value.cells] at hcs
    obtain ⟨rfl, rfl, rfl⟩ := hcs
    have hz' : zs.length = cap := by simpa using hz
    have hr : ∀ z ∈ zs, 0 ≤ z ∧ z < 256 := fun z hz => by
      have := hwf z hz
      simp [Lit.wf, IntKind.min, IntKind.max, IntKind.bits, IntKind.signed] at this
      omega
    refine ⟨(zs.take len).map Int.toNat, by simp; omega, Nat.le_trans hl hm, fun y hy => ?_, fun hpos => ?_⟩
    · obtain ⟨z, hz, rfl⟩ := List.mem_map.1 hy
      have := hr z (List.mem_of_mem_take hz)
      omega
    · have hlen : 0 < len := by simp at hpos; omega
      obtain ⟨g, off, spot⟩ := x
      have hc0 := hcell 0 (by omega)
      have hspot : spot = none := by simpa [Addr.add] using World.cell?_spot hc0
      subst hspot
      refine ⟨g, off, rfl, ?_, fun j x hx => ?_⟩
      · have := World.block_lt_of_cell? W _ hc0
        simpa [Addr.add_lit] using this
      · rw [List.getElem?_map, List.getElem?_take] at hx
        split at hx
        · rename_i hj
          have hjz : j < zs.length := by omega
          rw [List.getElem?_eq_getElem hjz] at hx
          simp at hx
          have hh := hcell j hjz
          rw [Addr.add_lit, List.getD_eq_getElem?_getD, List.getElem?_eq_getElem hjz] at hh
          have := hr _ (List.getElem_mem hjz)
          rw [hh, ← hx]
          simp only [Option.getD_some]
          rw [Int.toNat_of_nonneg this.1]
        · simp at hx

theorem cell_of {spare : Nat → Bool} {held : Bool} {base fuel : Nat} {cs : List Value} {x : DataW H × List MemPlace} (h : DataW.trod enc Try.prog W base spare held fuel 32 cs = some x) :
    ∃ (N M : Int) (K : ByteArray), cs = [.int .u64 N, .string K, .int .u64 M] := by
  obtain ⟨xs, n, _, _, hlen, hxl, hf⟩ := DataW.trod_struct Try.underlying32 h
  have e0 : Try.prog.cellsOf 32 = 3 := by kernel_rfl
  have e1 : Try.prog.cellsOf 29 = 1 := by kernel_rfl
  have e2 : Try.prog.cellsOf 9 = 1 := by kernel_rfl
  rw [e0] at hlen
  match cs, hlen with
  | [a, b, c], _ =>
    have h0 : DataW.trod enc Try.prog W base spare held n 29 (([a, b, c].drop 0).take (Try.prog.cellsOf 29)) = xs[0]? := hf 0 _ rfl
    have h1 : DataW.trod enc Try.prog W base spare held n 9 (([a, b, c].drop 1).take (Try.prog.cellsOf 9)) = xs[1]? := hf 1 _ rfl
    have h2 : DataW.trod enc Try.prog W base spare held n 29 (([a, b, c].drop 2).take (Try.prog.cellsOf 29)) = xs[2]? := hf 2 _ rfl
    rw [e1] at h0 h2
    rw [e2] at h1
    have hxl' : xs.length = 3 := hxl
    rw [List.getElem?_eq_getElem (by omega)] at h0 h1 h2
    obtain ⟨N, hN, _⟩ := DataW.trod_int Try.underlying29 h0
    obtain ⟨K, hK, _⟩ := DataW.trod_string Try.underlying9 h1
    obtain ⟨M, hM, _⟩ := DataW.trod_int Try.underlying29 h2
    simp at hN hK hM
    exact ⟨N, M, K, by rw [hN, hK, hM]⟩

theorem cell_slice {a : Option Addr} {len cap : Nat} {d : DataW H} {p : List MemPlace} (h : DataW.Trod enc Try.prog W 0 (fun _ => true) true 36 (.slice a len cap) d p) :
    ∃ l : List Cel, l.length = len ∧ len ≤ maxLen ∧
      (0 < l.length → ∃ g off, a = some ⟨g, off, none⟩ ∧ g < W.heap.size ∧ ∀ (i : Nat) (c : Cel), l[i]? = some c →
        W.cell? ⟨g, off + i * 3, none⟩ = some (.int .u64 c.1) ∧ W.cell? ⟨g, off + i * 3 + 1, none⟩ = some (.string c.2.1) ∧ W.cell? ⟨g, off + i * 3 + 2, none⟩ = some (.int .u64 c.2.2)) := by
  obtain ⟨fuel, hf⟩ := h
  rcases open_slice Try.underlying36 hf with ⟨hcs, _⟩ | ⟨x, l, c, m, n, D, Pl, hcs, _, hl, hm, hmm, _, hel⟩
  · simp [Value.cells] at hcs
    obtain ⟨rfl, rfl, rfl⟩ := hcs
    exact ⟨[], rfl, Nat.zero_le _, fun h => absurd h (by simp)⟩
  · simp [Value.cells] at hcs
    obtain ⟨rfl, rfl, rfl⟩ := hcs
    have hmm' : m = cap := by simpa using hmm
    subst hmm'
    have e0 : Try.prog.cellsOf 32 = 3 := by kernel_rfl
    obtain ⟨L, hL, hP⟩ := list_of (fun i (c : Cel) => W.cell? (x.add (i * 3)) = some (.int .u64 c.1) ∧ W.cell? ((x.add (i * 3)).add 1) = some (.string c.2.1) ∧ W.cell? ((x.add (i * 3)).add 2) = some (.int .u64 c.2.2)) len (fun i hi => by
      obtain ⟨cs', hc, ht⟩ := hel i (by omega)
      rw [e0] at hc
      obtain ⟨N, M, K, rfl⟩ := cell_of ht
      obtain ⟨_, _, hat⟩ := World.cells?_some hc
      have h0 := hat 0 (by omega)
      rw [Addr.add_zero'] at h0
      exact ⟨(N, K, M), h0, hat 1 (by omega), hat 2 (by omega)⟩)
    refine ⟨L, hL, Nat.le_trans hl hm, fun hpos => ?_⟩
    obtain ⟨g, off, spot⟩ := x
    have hc0 := (hP 0 _ (List.getElem?_eq_getElem hpos)).1
    have hspot : spot = none := by simpa [Addr.add] using World.cell?_spot hc0
    subst hspot
    refine ⟨g, off, rfl, ?_, fun i c hi => ?_⟩
    · have := World.block_lt_of_cell? W _ hc0
      simpa [Addr.add_lit] using this
    · have := hP i c hi
      simp only [Addr.add_lit] at this
      exact this

/-- A call: which, where, the old number, the new content, and the two marks. -/
structure Cal where
  kind : Int
  pos : Int
  old : Int
  cel : Cel
  raw : Bool
  fit : Bool

theorem call_of {spare : Nat → Bool} {held : Bool} {base fuel : Nat} {cs : List Value} {x : DataW H × List MemPlace} (h : DataW.trod enc Try.prog W base spare held fuel 39 cs = some x) :
    ∃ c : Cal, cs = [.int .i64 c.kind, .int .i64 c.pos, .int .u64 c.old, .int .u64 c.cel.1, .string c.cel.2.1, .int .u64 c.cel.2.2, .bool c.raw, .bool c.fit] := by
  obtain ⟨xs, n, _, _, hlen, hxl, hf⟩ := DataW.trod_struct Try.underlying39 h
  have e0 : Try.prog.cellsOf 39 = 8 := by kernel_rfl
  have e1 : Try.prog.cellsOf 29 = 1 := by kernel_rfl
  have e2 : Try.prog.cellsOf 3 = 1 := by kernel_rfl
  have e3 : Try.prog.cellsOf 4 = 1 := by kernel_rfl
  have e4 : Try.prog.cellsOf 32 = 3 := by kernel_rfl
  rw [e0] at hlen
  match cs, hlen with
  | [a, b, c, d, e, f, g, i], _ =>
    have h0 : DataW.trod enc Try.prog W base spare held n 3 (([a, b, c, d, e, f, g, i].drop 0).take (Try.prog.cellsOf 3)) = xs[0]? := hf 0 _ rfl
    have h1 : DataW.trod enc Try.prog W base spare held n 3 (([a, b, c, d, e, f, g, i].drop 1).take (Try.prog.cellsOf 3)) = xs[1]? := hf 1 _ rfl
    have h2 : DataW.trod enc Try.prog W base spare held n 29 (([a, b, c, d, e, f, g, i].drop 2).take (Try.prog.cellsOf 29)) = xs[2]? := hf 2 _ rfl
    have h3 : DataW.trod enc Try.prog W base spare held n 32 (([a, b, c, d, e, f, g, i].drop 3).take (Try.prog.cellsOf 32)) = xs[3]? := hf 3 _ rfl
    have h4 : DataW.trod enc Try.prog W base spare held n 4 (([a, b, c, d, e, f, g, i].drop 6).take (Try.prog.cellsOf 4)) = xs[4]? := hf 4 _ rfl
    have h5 : DataW.trod enc Try.prog W base spare held n 4 (([a, b, c, d, e, f, g, i].drop 7).take (Try.prog.cellsOf 4)) = xs[5]? := hf 5 _ rfl
    rw [e2] at h0 h1
    rw [e1] at h2
    rw [e4] at h3
    rw [e3] at h4 h5
    have hxl' : xs.length = 6 := hxl
    rw [List.getElem?_eq_getElem (by omega)] at h0 h1 h2 h3 h4 h5
    obtain ⟨k, hk, _⟩ := DataW.trod_int Try.underlying3 h0
    obtain ⟨p, hp, _⟩ := DataW.trod_int Try.underlying3 h1
    obtain ⟨o, ho, _⟩ := DataW.trod_int Try.underlying29 h2
    obtain ⟨N, M, K, hc⟩ := cell_of h3
    obtain ⟨r, hr, _⟩ := DataW.trod_bool Try.underlying4 h4
    obtain ⟨t, ht, _⟩ := DataW.trod_bool Try.underlying4 h5
    simp at hk hp ho hc hr ht
    exact ⟨⟨k, p, o, (N, K, M), r, t⟩, by rw [hk, hp, ho, hc.1, hc.2.1, hc.2.2, hr, ht]⟩

theorem call_slice {a : Option Addr} {len cap : Nat} {d : DataW H} {p : List MemPlace} (h : DataW.Trod enc Try.prog W 0 (fun _ => true) true 35 (.slice a len cap) d p) :
    ∃ l : List Cal, l.length = len ∧ len ≤ maxLen ∧
      (0 < l.length → ∃ g off, a = some ⟨g, off, none⟩ ∧ g < W.heap.size ∧ ∀ (i : Nat) (c : Cal), l[i]? = some c →
        W.cell? ⟨g, off + i * 8, none⟩ = some (.int .i64 c.kind) ∧ W.cell? ⟨g, off + i * 8 + 1, none⟩ = some (.int .i64 c.pos) ∧ W.cell? ⟨g, off + i * 8 + 2, none⟩ = some (.int .u64 c.old) ∧
        W.cell? ⟨g, off + i * 8 + 3, none⟩ = some (.int .u64 c.cel.1) ∧ W.cell? ⟨g, off + i * 8 + 4, none⟩ = some (.string c.cel.2.1) ∧ W.cell? ⟨g, off + i * 8 + 5, none⟩ = some (.int .u64 c.cel.2.2) ∧
        W.cell? ⟨g, off + i * 8 + 6, none⟩ = some (.bool c.raw) ∧ W.cell? ⟨g, off + i * 8 + 7, none⟩ = some (.bool c.fit)) := by
  obtain ⟨fuel, hf⟩ := h
  rcases open_slice Try.underlying35 hf with ⟨hcs, _⟩ | ⟨x, l, c, m, n, D, Pl, hcs, _, hl, hm, hmm, _, hel⟩
  · simp [Value.cells] at hcs
    obtain ⟨rfl, rfl, rfl⟩ := hcs
    exact ⟨[], rfl, Nat.zero_le _, fun h => absurd h (by simp)⟩
  · simp [Value.cells] at hcs
    obtain ⟨rfl, rfl, rfl⟩ := hcs
    have hmm' : m = cap := by simpa using hmm
    subst hmm'
    have e0 : Try.prog.cellsOf 39 = 8 := by kernel_rfl
    obtain ⟨L, hL, hP⟩ := list_of (fun i (c : Cal) => W.cell? (x.add (i * 8)) = some (.int .i64 c.kind) ∧ W.cell? ((x.add (i * 8)).add 1) = some (.int .i64 c.pos) ∧ W.cell? ((x.add (i * 8)).add 2) = some (.int .u64 c.old) ∧
        W.cell? ((x.add (i * 8)).add 3) = some (.int .u64 c.cel.1) ∧ W.cell? ((x.add (i * 8)).add 4) = some (.string c.cel.2.1) ∧ W.cell? ((x.add (i * 8)).add 5) = some (.int .u64 c.cel.2.2) ∧
        W.cell? ((x.add (i * 8)).add 6) = some (.bool c.raw) ∧ W.cell? ((x.add (i * 8)).add 7) = some (.bool c.fit)) len (fun i hi => by
      obtain ⟨cs', hc, ht⟩ := hel i (by omega)
      rw [e0] at hc
      obtain ⟨c, rfl⟩ := call_of ht
      obtain ⟨_, _, hat⟩ := World.cells?_some hc
      have h0 := hat 0 (by omega)
      rw [Addr.add_zero'] at h0
      exact ⟨c, h0, hat 1 (by omega), hat 2 (by omega), hat 3 (by omega), hat 4 (by omega), hat 5 (by omega), hat 6 (by omega), hat 7 (by omega)⟩)
    refine ⟨L, hL, Nat.le_trans hl hm, fun hpos => ?_⟩
    obtain ⟨g, off, spot⟩ := x
    have hc0 := (hP 0 _ (List.getElem?_eq_getElem hpos)).1
    have hspot : spot = none := by simpa [Addr.add] using World.cell?_spot hc0
    subst hspot
    refine ⟨g, off, rfl, ?_, fun i c hi => ?_⟩
    · have := World.block_lt_of_cell? W _ hc0
      simpa [Addr.add_lit] using this
    · have := hP i c hi
      simp only [Addr.add_lit] at this
      exact this

/-- A cell that is handed over by value. -/
theorem cell_value {r : Reach} {b0 : Nat} {v : Value} {d : DataW H} {p : List MemPlace} (hv : Value.okWide Try.prog W r b0 32 v) (h : DataW.Trod enc Try.prog W 0 (fun _ => true) true 32 v d p) :
    ∃ (N M : Int) (K : ByteArray), v = .agg #[.int .u64 N, .string K, .int .u64 M] := by
  obtain ⟨cs, rfl, hsz⟩ := okWide_struct Try.underlying32 hv
  obtain ⟨fuel, hf⟩ := h
  obtain ⟨N, M, K, e⟩ := cell_of hf
  refine ⟨N, M, K, ?_⟩
  have : cs.toList = [.int .u64 N, .string K, .int .u64 M] := e
  obtain ⟨l⟩ := cs
  simp only at this
  rw [this]

end
end Go.Proofs.Ytedplnngednecaa
