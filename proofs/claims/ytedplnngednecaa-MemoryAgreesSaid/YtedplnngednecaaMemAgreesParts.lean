/-
  Parts of the walk of layer 2's statement 'every call of a sequence returns what a list of cells returns': what a call's place is, and the state of a round. Condition: none.
-/
import Derived.Test.YtedplnngednecaaMemLawNew
import Derived.Test.YtedplnngednecaaMemOpens
namespace Go.Proofs.Ytedplnngednecaa
open Go.RowKit Go.Deep

/-- The place that a call names in a memory of n cells. -/
def Cal.at (c : Cal) (n : Nat) : Int := if c.raw = true then c.pos else c.pos % ((n : Int) + 1)

set_option maxHeartbeats 400000 in
theorem at_any (c : Cal) (n : Nat) (w : World) (hn : n ≤ 1000000) (i : Int) (hi : c.at n = i) :
    Calls Try.prog 15 #[.agg #[.int .i64 c.kind, .int .i64 c.pos, .int .u64 c.old, .int .u64 c.cel.1, .string c.cel.2.1, .int .u64 c.cel.2.2, .bool c.raw, .bool c.fit], .int .i64 n] w
      fun e w' => e = .returned (.int .i64 i) ∧ w.alloc (.cells #[.int .i64 c.kind, .int .i64 c.pos, .int .u64 c.old, .int .u64 c.cel.1, .string c.cel.2.1, .int .u64 c.cel.2.2, .bool c.raw, .bool c.fit] 39) = w' := by
  obtain ⟨kind, pos, old, ⟨N, K, M⟩, raw, fit⟩ := c
  subst hi
  unfold Cal.at
  cases raw
  · simp only [Bool.false_eq_true, if_false]
    go_enter Try.func15, Try.ntmps15
    go_wp2_with (go_at_call 8; refine (mod_any _ _ _ (by omega) (by omega)).mono ?_; rintro e w' ⟨rfl, rfl⟩)
    go_ret
    exact ⟨rfl, rfl⟩
  · simp only [if_true]
    go_enter Try.func15, Try.ntmps15
    go_wp2
    go_ret
    exact ⟨rfl, rfl⟩

/-- The copy, the list and the count that were kept: nothing yet, or as they were then. -/
def OldIs (w : World) (gl n : Nat) (o v c : Value) : Prop :=
  (o = .pointer none ∧ v = .slice none 0 0 ∧ c = .int .u64 0) ∨
  ∃ bo go gv cap Lo co, o = .pointer (some ⟨bo, 0, none⟩) ∧ v = .slice (some ⟨gv, 0, none⟩) n cap ∧ c = .int .u64 ((co : Nat) : Int) ∧ Mem w bo go Lo co ∧ Lo.length = n ∧
    gl < bo ∧ gl < go ∧ gl < gv ∧ gv < w.heap.size ∧ ∀ j u, (flat3 Lo)[j]? = some u → w.cell? ⟨gv, j, none⟩ = some u
theorem OldIs.kept {S : Nat → Prop} {w w' : World} {gl n : Nat} {o v c : Value} (h : OldIs w gl n o v c) (hk : Kept S w w') (hS : ∀ i, S i → i ≤ gl) : OldIs w' gl n o v c := by
  rcases h with h | ⟨bo, go, gv, cap, Lo, co, h1, h2, h3, h4, h5, h6, h7, h8, h9, h10⟩
  · exact .inl h
  · refine .inr ⟨bo, go, gv, cap, Lo, co, h1, h2, h3, h4.kept hk (fun h => by have := hS _ h; omega) (fun h => by have := hS _ h; omega), h5, h6, h7, h8, Nat.lt_of_lt_of_le h9 hk.size, fun j u hu => ?_⟩
    rw [hk.cell (p := ⟨gv, j, none⟩) h9 (fun h => by have := hS _ h; simp at this; omega)]
    exact h10 j u hu

/-- The blocks that a round may write: the memory at B + 1 and B, the list at gl. -/
def Three (B gl : Nat) : Nat → Prop := fun i => i = B + 1 ∨ i = B ∨ i = gl
/-- What holds behind k rounds. -/
structure Agr (w wr : World) (gl n k cnt : Nat) (L : List Cel) (o v c : Value) : Prop where
  ll : L.length = n
  cl : cnt ≤ k
  mem : Mem wr (w.heap.size + 1) w.heap.size L cnt
  row : Blk wr gl 32 (flat3 L)
  old : OldIs wr gl n o v c
  kept : Kept (fun _ => False) w wr
theorem Agr.go {w wr w' : World} {gl n k k' cnt cnt' : Nat} {L L' : List Cel} {o v c : Value} (h : Agr w wr gl n k cnt L o v c) (hgl : w.heap.size + 1 < gl) (hk : Kept (Three w.heap.size gl) wr w')
    (hM : Mem w' (w.heap.size + 1) w.heap.size L' cnt') (hR : Blk w' gl 32 (flat3 L')) (hl : L'.length = n) (hc : cnt' ≤ k') : Agr w w' gl n k' cnt' L' o v c :=
  ⟨hl, hc, hM, hR, h.old.kept hk (fun i hi => by unfold Three at hi; omega), h.kept.trans hk (fun i hi ht => by unfold Three at ht; omega)⟩
theorem Agr.same {w wr w' : World} {gl n k cnt : Nat} {L : List Cel} {o v c : Value} (h : Agr w wr gl n k cnt L o v c) (hk : Kept (fun _ => False) wr w') : Agr w w' gl n k cnt L o v c :=
  ⟨h.ll, h.cl, h.mem.kept hk id id, hk.blk h.row id, h.old.kept hk (fun _ h => h.elim), h.kept.trans hk (fun _ _ h => h)⟩
theorem Agr.next {w wr : World} {gl n k cnt : Nat} {L : List Cel} {o v c : Value} (h : Agr w wr gl n k cnt L o v c) : Agr w wr gl n (k + 1) cnt L o v c := ⟨h.ll, Nat.le_succ_of_le h.cl, h.mem, h.row, h.old, h.kept⟩
theorem Mem.drewN {w : World} {b g : Nat} {l : List Cel} {k : Nat} (h : Mem w b g l k) (q : Nat) : Mem (w.drewN q) b g l k := ⟨h.obj, h.row, h.ne⟩
theorem Mem.far {w : World} {l : List Cel} {k r B : Nat} (h : Mem w (B + 1) B l k) (hr : B + 1 < r) (i : Nat) (u : Value) : Mem (w.setCell ⟨r, i, none⟩ u) (B + 1) B l k :=
  ⟨h.obj.other (by show _ ≠ r; omega) _, h.row.other (by show _ ≠ r; omega) _, h.ne⟩
theorem Agr.saved {w wr w' : World} {gl n k cnt bo go gv cap : Nat} {L : List Cel} {o v c : Value} (h : Agr w wr gl n k cnt L o v c) (hk : Kept (fun _ => False) wr w') (hM : Mem w' bo go L cnt) (hb : gl < bo) (hg : gl < go) (hv : gl < gv) (hv2 : gv < w'.heap.size)
    (hr : ∀ j u, (flat3 L)[j]? = some u → w'.cell? ⟨gv, j, none⟩ = some u) : Agr w w' gl n k cnt L (.pointer (some ⟨bo, 0, none⟩)) (.slice (some ⟨gv, 0, none⟩) n cap) (.int .u64 ((cnt : Nat) : Int)) :=
  ⟨h.ll, h.cl, h.mem.kept hk id id, hk.blk h.row id, .inr ⟨bo, go, gv, cap, L, cnt, rfl, rfl, rfl, hM, h.ll, hb, hg, hv, hv2, hr⟩, h.kept.trans hk (fun _ _ h => h)⟩

theorem keep3o {S : Nat → Prop} {W w' : World} {r : Nat} {a b c : Value} (hk : Kept S W w') (hS : ¬ S r) (hr : r < W.heap.size) (h : W.cell? ⟨r, 0, none⟩ = some a ∧ W.cell? ⟨r, 1, none⟩ = some b ∧ W.cell? ⟨r, 2, none⟩ = some c) :
    w'.cell? ⟨r, 0, none⟩ = some a ∧ w'.cell? ⟨r, 1, none⟩ = some b ∧ w'.cell? ⟨r, 2, none⟩ = some c :=
  ⟨(hk.cell (p := ⟨r, 0, none⟩) hr hS).trans h.1, (hk.cell (p := ⟨r, 1, none⟩) hr hS).trans h.2.1, (hk.cell (p := ⟨r, 2, none⟩) hr hS).trans h.2.2⟩
theorem swaps_in (L : List Cel) (j : Nat) (N old M : Int) (K : ByteArray) (h : L[j]? = some (N, K, M)) : swaps L j old = (N == old) := by
  have hq : j < L.length := (List.getElem?_eq_some_iff.1 h).1
  have hc : cellAt L j = (N, K, M) := by rw [cellAt_in L j hq]; exact (List.getElem?_eq_some_iff.1 h).2
  unfold swaps isIn
  rw [hc]
  simp [hq]
theorem swaps_out (L : List Cel) (i old : Int) (h : isIn L i = false) : swaps L i old = false := by unfold swaps; rw [h]; rfl
theorem same_of (g1 g2 c1 c2 n : Nat) (l : List Cel) (w : World) (h1 : ∀ i u, (flat3 l)[i]? = some u → w.cell? ⟨g1, i, none⟩ = some u) (h2 : ∀ i u, (flat3 l)[i]? = some u → w.cell? ⟨g2, i, none⟩ = some u) (hl : l.length = n) (hn : n ≤ 1099511627776) :
    Calls Try.prog 19 #[.slice (some ⟨g1, 0, none⟩) n c1, .slice (some ⟨g2, 0, none⟩) n c2] w fun e w' => e = .returned (.bool true) ∧ ∃ n, w' = w.drewN n := by
  subst hl; exact same_yes g1 g2 c1 c2 l w h1 h2 hn
theorem kitCells_of (b g : Nat) (l : List Cel) (k n : Nat) (w : World) (h : Mem w b g l k) (hl : l.length = n) (hn : n ≤ 1099511627776) :
    Calls Try.prog 20 #[.pointer (some ⟨b, 0, none⟩)] w fun e w' => e = .returned (.slice (some ⟨w.heap.size, 0, none⟩) n n) ∧ Blk w' w.heap.size 32 (flat3 l) ∧ Kept (fun _ => False) w w' := by
  subst hl; exact kitCells_any b g l k w h hn

theorem own_slice {w : World} {base e size n : Nat} {v : Value} {xs : List Value} (h : w.ownsRow base e size v n xs) (hn : 0 < n) :
    ∃ g cap, v = .slice (some ⟨g, 0, none⟩) n cap ∧ base ≤ g ∧ g < w.heap.size ∧ ∀ j u, xs[j]? = some u → w.cell? ⟨g, j, none⟩ = some u := by
  rcases h.2 with ⟨_, h0⟩ | ⟨g, cap, cur, rfl, hb, hg, rest⟩
  · omega
  · refine ⟨g, cap, rfl, hb, (Array.getElem?_eq_some_iff.1 hg).1, fun j u hu => ?_⟩
    have := h.cells (g := g) rfl j u hu
    rw [Addr.add_lit, Nat.zero_add] at this
    exact this

end Go.Proofs.Ytedplnngednecaa
