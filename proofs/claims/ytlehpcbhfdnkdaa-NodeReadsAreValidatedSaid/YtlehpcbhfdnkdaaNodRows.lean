/-
  Rows of slots that stay where other blocks are written: only a row with slots in it can be hit. Condition: none.
-/
import Derived.Test.YtlehpcbhfdnkdaaNodPut
import Derived.Test.YtlehpcbhfdnkdaaNodCut
import Derived.Test.YtlehpcbhfdnkdaaNodAmong
import Derived.Test.YtlehpcbhfdnkdaaNodAwake
namespace Go.Proofs.Ytlehpcbhfdnkdaa
open Go.RowKit Go.Deep Plain
set_option linter.unusedVariables false

theorem Rs.keptP {Y : Nat → Prop} {w w' : World} {A : Option Addr} {c : Nat} {xs : List Sl} (h : Rs w A c xs) (hk : Kept Y w w') (hA : 0 < xs.length → ∀ a, A = some a → ¬ Y a.block) : Rs w' A c xs :=
  ⟨h.le, h.max, h.none', fun hp => by
    obtain ⟨g, off, e, hg, hc⟩ := h.some' hp
    exact ⟨g, off, e, Nat.lt_of_lt_of_le hg hk.size, fun j u hu => (hk.cell (p := ⟨g, off + j, none⟩) hg (show ¬ Y g from hA hp _ e)).trans (hc j u hu)⟩⟩
theorem Rs.lt {w : World} {A : Option Addr} {c : Nat} {xs : List Sl} (h : Rs w A c xs) (hp : 0 < xs.length) (a : Addr) (ha : A = some a) : a.block < w.heap.size := by
  obtain ⟨g, off, e, hg, _⟩ := h.some' hp
  rw [e] at ha; cases ha; exact hg
/-- A Read's state seen with another word of the latch while it has not begun. -/
theorem rgo_zero {F nid : Nat} {l : List Cel} (wd : Nat) : rgo F nid l ⟨0, wd, cs0⟩ = rgo F nid l rst0 := by
  unfold rgo rcell raddr
  rw [if_pos (by decide : (0 : Nat) < 3), if_pos (show rst0.ph < 3 by decide), if_neg (by decide : ¬ (0 : Nat) = 1), if_neg (show ¬ rst0.ph = 1 by decide)]
  unfold rnext
  rw [if_pos rfl, if_pos (show rst0.ph = 0 from rfl)]; rfl
/-- While the latch is changing, a Read waits. -/
theorem rgo_wait {F nid : Nat} {l : List Cel} {y : Rst} (hp : y.ph = 0) (hs : y.s = cs0) {wd : Nat} (hl : (cellAt l (nla F nid)).1 = (wd : Int)) (hch : wd / 2 % 2 = 1) : rgo F nid l y = ⟨0, wd, cs0⟩ := by
  have e : (cellAt l (nla F nid)).1.toNat = wd := by rw [hl]; rfl
  unfold rgo rcell raddr
  rw [if_pos (by omega), if_neg (by omega), e]
  unfold rnext
  rw [if_pos hp, if_pos hch, hs]
/-- A Read that has waited goes on as one that runs alone. -/
def rwait (F nid : Nat) (l : List Cel) (y : Rst) : Nat → Rst
  | 0 => y
  | k + 1 => ralone F nid l (k + 1)
theorem rwait_step {F nid : Nat} {l : List Cel} {y : Rst} (hp : y.ph = 0) (hs : y.s = cs0) (k : Nat) : rgo F nid l (rwait F nid l y k) = rwait F nid l y (k + 1) := by
  cases k with
  | zero =>
    obtain ⟨ph, wd, s⟩ := y
    simp only at hp hs
    subst hp hs
    exact rgo_zero wd
  | succ k => rfl

/-- The configuration and the layout of a law, its memory's blocks; nothing older has changed. -/
structure Ev (w wr : World) (F : Nat) (fb fd : Int) (b g b9 b10 : Nat) : Prop where
  cfg : Blk wr b9 27 [.int .i64 1, .int .i64 2, .int .i64 100, .int .i64 100, .int .i64 200, .int .i64 (F : Int), .int .u64 1000]
  lay : Blk wr b10 30 [.int .i64 1, .int .i64 2, .int .i64 100, .int .i64 100, .int .i64 200, .int .i64 (F : Int), .int .u64 1000, .int .i64 10, .int .i64 fb, .int .i64 fd]
  kept : Kept (fun _ => False) w wr
  bg : w.heap.size ≤ b ∧ w.heap.size ≤ g
  n9 : ¬ Own b g b9
  n10 : ¬ Own b g b10
/-- What a step of a machine writes: its own blocks and the memory's. -/
abbrev Stp (Z : Nat → Prop) (b g : Nat) : Nat → Prop := fun i => Z i ∨ i = b ∨ i = g
section
variable {w wr wz : World} {F : Nat} {fb fd : Int} {b g b9 b10 s0 bp : Nat} {Z : Nat → Prop}
theorem Ev.none (E : Ev w wr F fb fd b g b9 b10) (hk : Kept (fun _ => False) wr wz) : Ev w wz F fb fd b g b9 b10 :=
  ⟨hk.blk E.cfg (fun h => h), hk.blk E.lay (fun h => h), E.kept.trans hk (fun _ _ h => h), E.bg, E.n9, E.n10⟩
theorem Ev.own (E : Ev w wr F fb fd b g b9 b10) (hk : Kept (Own b g) wr wz) : Ev w wz F fb fd b g b9 b10 :=
  ⟨hk.blk E.cfg E.n9, hk.blk E.lay E.n10, E.kept.trans hk (fun i hi e => by have := E.bg; unfold Own at e; omega), E.bg, E.n9, E.n10⟩
theorem Ev.step (E : Ev w wr F fb fd b g b9 b10) (hZ : ∀ i, Z i → s0 ≤ i) (hs : b9 < s0 ∧ b10 < s0 ∧ w.heap.size ≤ s0) (hk : Kept (Stp Z b g) wr wz) : Ev w wz F fb fd b g b9 b10 := by
  have hn : ∀ i, ¬ Own b g i → i < s0 → ¬ Stp Z b g i := fun i h1 h2 e => by
    rcases e with e | e | e
    · have := hZ i e; omega
    · exact h1 (.inl e)
    · exact h1 (.inr e)
  exact ⟨hk.blk E.cfg (hn _ E.n9 hs.1), hk.blk E.lay (hn _ E.n10 hs.2.1), E.kept.trans hk (fun i hi e => by
    have := E.bg
    rcases e with e | e | e
    · have := hZ i e; omega
    · omega
    · omega), E.bg, E.n9, E.n10⟩

/-- A page in a block of its own, with its row of slots. -/
structure Px (b g : Nat) (wr : World) (bp : Nat) (P : Pg) (A : Option Addr) (c : Nat) : Prop where
  blk : Blk wr bp 25 [.int .i64 (P.lv : Int), .slice A P.xs.length c, .string P.hi, .bool P.la, .int .u64 (P.rt : Int)]
  row : Rs wr A c P.xs
  ne : ¬ Own b g bp
  nr : ∀ a, A = some a → ¬ Own b g a.block
/-- It lies ahead of a place. -/
structure Pold (s0 bp : Nat) (P : Pg) (A : Option Addr) : Prop where
  bp : bp < s0
  row : 0 < P.xs.length → ∀ a, A = some a → a.block < s0
variable {P : Pg} {A : Option Addr} {c : Nat}
theorem Px.old (h : Px b g wr bp P A c) : Pold wr.heap.size bp P A := ⟨h.blk.lt, fun hp a ha => h.row.lt hp a ha⟩
theorem Pold.le {s1 : Nat} (h : Pold s0 bp P A) (hs : s0 ≤ s1) : Pold s1 bp P A := ⟨Nat.lt_of_lt_of_le h.bp hs, fun hp a ha => Nat.lt_of_lt_of_le (h.row hp a ha) hs⟩
theorem Px.none (h : Px b g wr bp P A c) (hk : Kept (fun _ => False) wr wz) : Px b g wz bp P A c := ⟨hk.blk h.blk (fun h => h), h.row.keptF hk (fun _ _ h => h), h.ne, h.nr⟩
theorem Px.own (h : Px b g wr bp P A c) (hk : Kept (Own b g) wr wz) : Px b g wz bp P A c := ⟨hk.blk h.blk h.ne, h.row.keptF hk h.nr, h.ne, h.nr⟩
theorem Px.step (h : Px b g wr bp P A c) (hZ : ∀ i, Z i → s0 ≤ i) (ho : Pold s0 bp P A) (hk : Kept (Stp Z b g) wr wz) : Px b g wz bp P A c := by
  have hn : ∀ i, ¬ Own b g i → i < s0 → ¬ Stp Z b g i := fun i h1 h2 e => by
    rcases e with e | e | e
    · have := hZ i e; omega
    · exact h1 (.inl e)
    · exact h1 (.inr e)
  exact ⟨hk.blk h.blk (hn _ h.ne ho.bp), h.row.keptP hk (fun hp a ha => hn _ (h.nr a ha) (ho.row hp a ha)), h.ne, h.nr⟩
/-- A machine's blocks behind a step. -/
theorem zold {Z' : Nat → Prop} (hZ : ∀ i, Z i → s0 ≤ i) (hn : ∀ i, Z' i → Z i ∨ wr.heap.size ≤ i) (hs : s0 ≤ wr.heap.size) : ∀ i, Z' i → s0 ≤ i := fun i hi => by
  rcases hn i hi with h | h
  · exact hZ i h
  · omega
end
end Go.Proofs.Ytlehpcbhfdnkdaa
