/-
  What an argument that is a list of steps or of batches looks like in memory. Condition: none beside the form's own reach.
-/
import Derived.Test.YtodenkamlbihnaaBatOpens
import Derived.Test.YtodenkamlbihnaaBatFns
namespace Go.Proofs.Ytodenkamlbihnaa
open Go.ChangeShapes Go.WideShapes Go.ChangeAt Go.RowKit Go.Deep Plain PlainE
open Go.ChangeMaps (open_string shut_string)
set_option linter.unusedVariables false

/-- A step: its kind, its batch (the slice and what it holds), thread, number, and where to raise the floor. -/
structure Stp where
  kind : Int
  A : Option Addr
  n : Nat
  c : Nat
  b : List Wri
  th : Int
  jj : Int
  to : Nat
def stc (y : Stp) : List Value := [.int .i64 y.kind, .slice y.A y.n y.c, .int .i64 y.th, .int .i64 y.jj, .int .u64 (y.to : Int)]
structure Stps (w : World) (a : Option Addr) (ys : List Stp) : Prop where
  at' : 0 < ys.length → ∃ g off, a = some ⟨g, off, none⟩ ∧ g < w.heap.size ∧ ∀ (i k : Nat) (y : Stp) (u : Value), ys[i]? = some y → (stc y)[k]? = some u → w.cell? ⟨g, off + i * 5 + k, none⟩ = some u
  row : ∀ y ∈ ys, RW w y.A y.c y.b ∧ y.b.length = y.n ∧ y.n ≤ maxLen ∧ ∀ x ∈ y.b, Sz x
  word : ∀ y ∈ ys, y.to < 18446744073709551616 ∧ (Lit.int .i64 y.kind).wf = true ∧ (Lit.int .i64 y.th).wf = true ∧ (Lit.int .i64 y.jj).wf = true
theorem Stps.below {w w' : World} {a : Option Addr} {ys : List Stp} {B : Nat} (h : Stps w a ys) (hb : Below B w w') (hB : w.heap.size ≤ B) : Stps w' a ys :=
  ⟨fun hp => by
    obtain ⟨g, off, e, hg, hc⟩ := h.at' hp
    exact ⟨g, off, e, Nat.lt_of_lt_of_le hg hb.size, fun i k y u hy hu => (hb.cell (p := ⟨g, off + i * 5 + k, none⟩) (Nat.lt_of_lt_of_le hg hB)).trans (hc i k y u hy hu)⟩,
   fun y hy => ⟨(h.row y hy).1.below hb hB, (h.row y hy).2⟩, h.word⟩
/-- A list of batches: each with its slice. -/
structure Bts (w : World) (a : Option Addr) (ys : List Stp) : Prop where
  at' : 0 < ys.length → ∃ g off, a = some ⟨g, off, none⟩ ∧ g < w.heap.size ∧ ∀ (i : Nat) (y : Stp), ys[i]? = some y → w.cell? ⟨g, off + i, none⟩ = some (.slice y.A y.n y.c)
  row : ∀ y ∈ ys, RW w y.A y.c y.b ∧ y.b.length = y.n ∧ y.n ≤ maxLen ∧ ∀ x ∈ y.b, Sz x
theorem Bts.below {w w' : World} {a : Option Addr} {ys : List Stp} {B : Nat} (h : Bts w a ys) (hb : Below B w w') (hB : w.heap.size ≤ B) : Bts w' a ys :=
  ⟨fun hp => by
    obtain ⟨g, off, e, hg, hc⟩ := h.at' hp
    exact ⟨g, off, e, Nat.lt_of_lt_of_le hg hb.size, fun i y hy => (hb.cell (p := ⟨g, off + i, none⟩) (Nat.lt_of_lt_of_le hg hB)).trans (hc i y hy)⟩,
   fun y hy => ⟨(h.row y hy).1.below hb hB, (h.row y hy).2⟩⟩

theorem word_of {a : Int} (h : (Lit.int .u64 a).wf = true) : ∃ x : Nat, a = (x : Int) ∧ x < 18446744073709551616 := by
  simp [Lit.wf, IntKind.min, IntKind.max, IntKind.bits, IntKind.signed] at h; exact ⟨a.toNat, by omega, by omega⟩
section
variable {H : Type} {enc : TypeId × Value → H} {W : World}
set_option maxRecDepth 100000 in
theorem batch_of {fuel : Nat} {c0 : Value} {x : DataW H × List MemPlace} (h : DataW.trod enc Try.prog W 0 (fun _ => true) true fuel 34 [c0] = some x) :
    ∃ A n c b, c0 = .slice A n c ∧ RW W A c b ∧ b.length = n ∧ n ≤ maxLen ∧ ∀ x ∈ b, Sz x := by
  have hsl : ∃ A n c, c0 = .slice A n c := by
    rcases open_slice Try.underlying34 h with ⟨hcs, _⟩ | ⟨ad, l, c, m, n, D, Pl, hcs, _⟩
    · simp at hcs; exact ⟨_, _, _, hcs⟩
    · simp at hcs; exact ⟨_, _, _, hcs⟩
  obtain ⟨A, n, c, rfl⟩ := hsl
  obtain ⟨xs, h1, h2, h3, h4⟩ := open_wris (d := x.1) (p := x.2) ⟨fuel, h⟩
  exact ⟨A, n, c, xs, rfl, h3, h1, h2, fun y hy => h4 y hy⟩
set_option maxRecDepth 100000 in
theorem step_of {fuel : Nat} {cs : List Value} {x : DataW H × List MemPlace} (h : DataW.trod enc Try.prog W 0 (fun _ => true) true fuel 36 cs = some x) :
    ∃ y : Stp, cs = stc y ∧ (RW W y.A y.c y.b ∧ y.b.length = y.n ∧ y.n ≤ maxLen ∧ ∀ x ∈ y.b, Sz x) ∧ y.to < 18446744073709551616 ∧ (Lit.int .i64 y.kind).wf = true ∧ (Lit.int .i64 y.th).wf = true ∧ (Lit.int .i64 y.jj).wf = true := by
  obtain ⟨xs, n, _, hx, hlen, hxl, hg⟩ := DataW.trod_struct Try.underlying36 h
  have e0 : Try.prog.cellsOf 36 = 5 := by kernel_rfl
  have e1 : Try.prog.cellsOf 23 = 1 := by kernel_rfl
  have e3 : Try.prog.cellsOf 3 = 1 := by kernel_rfl
  have e5 : Try.prog.cellsOf 34 = 1 := by kernel_rfl
  rw [e0] at hlen
  match cs, hlen with
  | [c0, c1, c2, c3, c4], _ =>
    have h0 : DataW.trod enc Try.prog W 0 (fun _ => true) true n 3 (([c0, c1, c2, c3, c4].drop 0).take (Try.prog.cellsOf 3)) = xs[0]? := hg 0 _ rfl
    have h1 : DataW.trod enc Try.prog W 0 (fun _ => true) true n 34 (([c0, c1, c2, c3, c4].drop 1).take (Try.prog.cellsOf 34)) = xs[1]? := hg 1 _ rfl
    have h2 : DataW.trod enc Try.prog W 0 (fun _ => true) true n 3 (([c0, c1, c2, c3, c4].drop 2).take (Try.prog.cellsOf 3)) = xs[2]? := hg 2 _ rfl
    have h3 : DataW.trod enc Try.prog W 0 (fun _ => true) true n 3 (([c0, c1, c2, c3, c4].drop 3).take (Try.prog.cellsOf 3)) = xs[3]? := hg 3 _ rfl
    have h4 : DataW.trod enc Try.prog W 0 (fun _ => true) true n 23 (([c0, c1, c2, c3, c4].drop 4).take (Try.prog.cellsOf 23)) = xs[4]? := hg 4 _ rfl
    rw [e3] at h0
    rw [e5] at h1
    rw [e3] at h2
    rw [e3] at h3
    rw [e1] at h4
    have hxl' : xs.length = 5 := hxl
    match xs, hxl' with
    | [x0, x1, x2, x3, x4], _ =>
      simp only [List.getElem?_cons_zero, List.getElem?_cons_succ] at h0 h1 h2 h3 h4
      obtain ⟨kd, q0, w0⟩ := DataW.trod_int Try.underlying3 h0
      obtain ⟨th, q2, w2⟩ := DataW.trod_int Try.underlying3 h2
      obtain ⟨jj, q3, w3⟩ := DataW.trod_int Try.underlying3 h3
      obtain ⟨M, q4, w4⟩ := DataW.trod_int Try.underlying23 h4
      simp at q0 q2 q3 q4 h1
      obtain ⟨A, len, c, b, rfl, hb⟩ := batch_of h1
      have hM : 0 ≤ M ∧ M < 18446744073709551616 := by
        have := w4.2
        simp [Lit.wf, IntKind.min, IntKind.max, IntKind.signed, IntKind.bits] at this
        omega
      exact ⟨⟨kd, A, len, c, b, th, jj, M.toNat⟩, by unfold stc; simp only; rw [q0, q2, q3, q4, Int.toNat_of_nonneg hM.1], hb, by simp only; omega, w0.2, w2.2, w3.2⟩
/-- A list of steps. -/
theorem open_steps {a : Option Addr} {len cap : Nat} {d : DataW H} {p : List MemPlace} (h : DataW.Trod enc Try.prog W 0 (fun _ => true) true 22 (.slice a len cap) d p) :
    ∃ rs : List Stp, rs.length = len ∧ len ≤ maxLen ∧ Stps W a rs := by
  obtain ⟨fuel, hf⟩ := h
  rcases open_slice Try.underlying22 hf with ⟨hcs, _⟩ | ⟨ad, l, c, m, n, D, Pl, hcs, _, hl, hm, hmm, hx, hel⟩
  · simp [Value.cells] at hcs
    obtain ⟨rfl, rfl, rfl⟩ := hcs
    exact ⟨[], rfl, Nat.zero_le _, ⟨fun h => absurd h (by simp), fun _ h => by simp at h, fun _ h => by simp at h⟩⟩
  · simp [Value.cells] at hcs
    obtain ⟨rfl, rfl, rfl⟩ := hcs
    have hmm' : m = cap := by simpa using hmm
    subst hmm'
    have e0 : Try.prog.cellsOf 36 = 5 := by kernel_rfl
    obtain ⟨L, hL, hP⟩ := list_of (fun i (y : Stp) => (∀ (k : Nat) (u : Value), (stc y)[k]? = some u → W.cell? ((ad.add (i * 5)).add k) = some u) ∧ (RW W y.A y.c y.b ∧ y.b.length = y.n ∧ y.n ≤ maxLen ∧ ∀ x ∈ y.b, Sz x) ∧ y.to < 18446744073709551616 ∧ (Lit.int .i64 y.kind).wf = true ∧ (Lit.int .i64 y.th).wf = true ∧ (Lit.int .i64 y.jj).wf = true) len (fun i hi => by
      obtain ⟨cs', hc, ht⟩ := hel i (by omega)
      rw [e0] at hc
      obtain ⟨y, rfl, hy⟩ := step_of ht
      obtain ⟨_, _, hat⟩ := World.cells?_some hc
      refine ⟨y, fun k u hu => ?_, hy⟩
      have hk : k < 5 := (List.getElem?_eq_some_iff.1 hu).1
      have := hat k hk
      rw [this]
      have hk2 : k < (stc y).length := (List.getElem?_eq_some_iff.1 hu).1
      rcases (by omega : k = 0 ∨ k = 1 ∨ k = 2 ∨ k = 3 ∨ k = 4) with rfl | rfl | rfl | rfl | rfl <;> (unfold stc at hu ⊢; simpa using hu))
    have hmem : ∀ y ∈ L, ∃ i, L[i]? = some y := fun y hy => by
      obtain ⟨i, hi, rfl⟩ := List.getElem_of_mem hy
      exact ⟨i, List.getElem?_eq_getElem hi⟩
    refine ⟨L, hL, Nat.le_trans hl hm, ⟨fun hpos => ?_, fun y hy => ?_, fun y hy => ?_⟩⟩
    · obtain ⟨g, off, spot⟩ := ad
      have hc0 := (hP 0 _ (List.getElem?_eq_getElem hpos)).1 0 _ rfl
      have hspot : spot = none := by simpa [Addr.add] using World.cell?_spot hc0
      subst hspot
      refine ⟨g, off, rfl, ?_, fun i k y u hy hu => ?_⟩
      · have := World.block_lt_of_cell? W _ hc0
        simpa [Addr.add_lit] using this
      · have := (hP i y hy).1 k u hu
        rw [Addr.add_lit, Addr.add_lit] at this
        exact this
    · obtain ⟨i, hi⟩ := hmem y hy
      exact (hP i y hi).2.1
    · obtain ⟨i, hi⟩ := hmem y hy
      exact (hP i y hi).2.2
/-- A list of batches. -/
theorem open_batches {a : Option Addr} {len cap : Nat} {d : DataW H} {p : List MemPlace} (h : DataW.Trod enc Try.prog W 0 (fun _ => true) true 27 (.slice a len cap) d p) :
    ∃ rs : List Stp, rs.length = len ∧ len ≤ maxLen ∧ Bts W a rs := by
  obtain ⟨fuel, hf⟩ := h
  rcases open_slice Try.underlying27 hf with ⟨hcs, _⟩ | ⟨ad, l, c, m, n, D, Pl, hcs, _, hl, hm, hmm, hx, hel⟩
  · simp [Value.cells] at hcs
    obtain ⟨rfl, rfl, rfl⟩ := hcs
    exact ⟨[], rfl, Nat.zero_le _, ⟨fun h => absurd h (by simp), fun _ h => by simp at h⟩⟩
  · simp [Value.cells] at hcs
    obtain ⟨rfl, rfl, rfl⟩ := hcs
    have hmm' : m = cap := by simpa using hmm
    subst hmm'
    have e0 : Try.prog.cellsOf 34 = 1 := by kernel_rfl
    obtain ⟨L, hL, hP⟩ := list_of (fun i (y : Stp) => W.cell? (ad.add (i * 1)) = some (.slice y.A y.n y.c) ∧ (RW W y.A y.c y.b ∧ y.b.length = y.n ∧ y.n ≤ maxLen ∧ ∀ x ∈ y.b, Sz x)) len (fun i hi => by
      obtain ⟨cs', hc, ht⟩ := hel i (by omega)
      rw [e0] at hc
      obtain ⟨_, hcl, hat⟩ := World.cells?_some hc
      have hcl' : cs'.length = 1 := hcl
      match cs', hcl' with
      | [c0], _ =>
        obtain ⟨A, n, c, b, rfl, hb⟩ := batch_of ht
        have h0 := hat 0 (by omega)
        rw [Addr.add_zero'] at h0
        exact ⟨⟨0, A, n, c, b, 0, 0, 0⟩, h0, hb⟩)
    have hmem : ∀ y ∈ L, ∃ i, L[i]? = some y := fun y hy => by
      obtain ⟨i, hi, rfl⟩ := List.getElem_of_mem hy
      exact ⟨i, List.getElem?_eq_getElem hi⟩
    refine ⟨L, hL, Nat.le_trans hl hm, ⟨fun hpos => ?_, fun y hy => ?_⟩⟩
    · obtain ⟨g, off, spot⟩ := ad
      have hc0 := (hP 0 _ (List.getElem?_eq_getElem hpos)).1
      have hspot : spot = none := by simpa [Addr.add] using World.cell?_spot hc0
      subst hspot
      refine ⟨g, off, rfl, ?_, fun i y hy => ?_⟩
      · have := World.block_lt_of_cell? W _ hc0
        simpa [Addr.add_lit] using this
      · have := (hP i y hy).1
        rw [Addr.add_lit, Nat.mul_one] at this
        exact this
    · obtain ⟨i, hi⟩ := hmem y hy
      exact (hP i y hi).2
end
end Go.Proofs.Ytodenkamlbihnaa
