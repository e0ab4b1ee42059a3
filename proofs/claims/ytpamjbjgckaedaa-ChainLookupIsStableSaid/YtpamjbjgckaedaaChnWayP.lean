/-
  Plain facts about a memory in which a writer works on chain 1 while a reader at time t looks it up: what holds of it, and what each store of the writer keeps of that. No program is spoken of. Condition: none.
-/
import Derived.Test.YtpamjbjgckaedaaChnDb
namespace Go.Proofs.Ytpamjbjgckaedaa
open Plain
set_option linter.unusedVariables false

/-- The chain's cell leads to record c1, from where the way leads down to t; records above top are pending; the M of a record's value is a natural number. -/
structure Wm (C R b d : Int) (n : Nat) (l : List Cel) (t top c1 : Nat) (u : ByteArray × Bool) : Prop where
  len : l.length = n
  way : Way R d l t top u
  chain : (cellAt l (chainAt C b ((1 : Nat) : Int))).1 = (c1 : Int)
  lo : t ≤ c1
  hi : c1 ≤ top
  free : ∀ q : Nat, top < q → (q : Int) ≤ R → (cellAt l (recAt R d q 0)).1 = 0
  nat : ∀ q : Nat, 1 ≤ q → q ≤ t → ∃ m : Nat, (cellAt l (recAt R d q 1)).2.2 = (m : Int)
section
variable {C R b d : Int} {n : Nat} {l : List Cel} {t top c1 : Nat} {u : ByteArray × Bool}
/-- A record of the chain: its stamp, and the next one, which is lower. -/
theorem Wm.at (h : Wm C R b d n l t top c1 u) {k : Nat} (h1 : 1 ≤ k) (h2 : k ≤ top) : ∃ s nx : Nat, (cellAt l (recAt R d k 0)).1 = (s : Int) ∧ (cellAt l (recAt R d k 2)).1 = (nx : Int) ∧ nx < k := by
  by_cases hk : t < k
  · obtain ⟨⟨s, hs, _⟩, nx, hn, _, hl⟩ := h.way.up k hk h2
    exact ⟨s, nx, hs, hn, hl⟩
  · obtain ⟨hs, nx, hn, hl⟩ := h.way.low k h1 (by omega)
    exact ⟨k, nx, hs, hn, hl⟩
/-- A store to the value or the next one of a record that is not there yet. -/
theorem Wm.fresh (h : Wm C R b d n l t top c1 u) (g : Geo C R b d n) {q : Nat} (h1 : top < q) (h2 : (q : Int) ≤ R) {p : Int} (hp : 1 ≤ p ∧ p < 3) {N : Int} {K : ByteArray} {M : Nat} : Wm C R b d n (putAt l (recAt R d q p) (N, K, (M : Int))) t top c1 u := by
  have hq : 1 ≤ q ∧ (q : Int) ≤ R := ⟨by omega, h2⟩
  have hin := g.in hq (p := p) (by omega)
  refine ⟨(putAt_length _ _ _).trans h.len, h.way.fresh h1 h2 (by omega) _, ?_, h.lo, h.hi, fun q2 h3 h4 => ?_, fun q2 h3 h4 => ?_⟩
  · rw [cellAt_far (fun e => g.chain 1 hq (p := p) (by omega) e.symm)]; exact h.chain
  · rw [cellAt_far (rec_ne hq ⟨by omega, h4⟩ (by omega) (by omega) (.inr (by omega)))]; exact h.free q2 h3 h4
  · have := h.lo; have := h.hi
    rw [cellAt_far (rec_ne hq ⟨h3, by omega⟩ (by omega) (by omega) (.inl (by omega)))]; exact h.nat q2 h3 h4
/-- The new record becomes the newest one. -/
theorem Wm.push (h : Wm C R b d n l t top c1 u) (g : Geo C R b d n) (hC : 1 ≤ C) (h2 : ((top + 1 : Nat) : Int) ≤ R) {nx : Nat} (hn : (cellAt l (recAt R d (top + 1 : Nat) 2)).1 = (nx : Int)) (hnx : t ≤ nx ∧ nx ≤ top) {K : ByteArray} {M : Int} :
    Wm C R b d n (putAt l (chainAt C b ((1 : Nat) : Int)) (((top + 1 : Nat) : Int), K, M)) t (top + 1) (top + 1) u := by
  have hq : 1 ≤ top + 1 ∧ ((top + 1 : Nat) : Int) ≤ R := ⟨by omega, h2⟩
  have hin := g.cin (c := 1) ⟨by omega, by omega⟩
  have hs := h.free (top + 1) (by omega) h2
  have hlo := h.lo
  have hhi := h.hi
  refine ⟨(putAt_length _ _ _).trans h.len, (h.way.chain g 1 _).grow h2 (s := 0) (nx := nx) ?_ (.inl rfl) ?_ hnx, ?_, by omega, Nat.le_refl _, fun q2 h3 h4 => ?_, fun q2 h3 h4 => ?_⟩
  · rw [cellAt_far (g.chain 1 hq (by omega))]; simpa using hs
  · rw [cellAt_far (g.chain 1 hq (by omega))]; exact hn
  · rw [cellAt_own hin.1 (by rw [h.len]; exact hin.2)]
  · rw [cellAt_far (g.chain 1 ⟨by omega, h4⟩ (by omega))]; exact h.free q2 (by omega) h4
  · have := h.lo; have := h.hi; have := h.way.hi
    rw [cellAt_far (g.chain 1 ⟨h3, by omega⟩ (by omega))]; exact h.nat q2 h3 h4
/-- Another record becomes the newest one. -/
theorem Wm.back (h : Wm C R b d n l t top c1 u) (g : Geo C R b d n) (hC : 1 ≤ C) {c : Nat} (hc : t ≤ c ∧ c ≤ top) {K : ByteArray} {M : Int} : Wm C R b d n (putAt l (chainAt C b ((1 : Nat) : Int)) ((c : Int), K, M)) t top c u := by
  have hin := g.cin (c := 1) ⟨by omega, by omega⟩
  refine ⟨(putAt_length _ _ _).trans h.len, h.way.chain g 1 _, ?_, hc.1, hc.2, fun q2 h3 h4 => ?_, fun q2 h3 h4 => ?_⟩
  · rw [cellAt_own hin.1 (by rw [h.len]; exact hin.2)]
  · rw [cellAt_far (g.chain 1 ⟨by omega, h4⟩ (by omega))]; exact h.free q2 h3 h4
  · have := h.lo; have := h.hi; have := h.way.hi
    rw [cellAt_far (g.chain 1 ⟨h3, by omega⟩ (by omega))]; exact h.nat q2 h3 h4
/-- A later record gets a later stamp. -/
theorem Wm.stamp (h : Wm C R b d n l t top c1 u) (g : Geo C R b d n) {q s : Nat} (hq : t < q ∧ q ≤ top) (hs : t < s) {K : ByteArray} {M : Int} : Wm C R b d n (putAt l (recAt R d q 0) ((s : Int), K, M)) t top c1 u := by
  have hhi := h.way.hi
  have hqR : 1 ≤ q ∧ (q : Int) ≤ R := ⟨by omega, by omega⟩
  refine ⟨(putAt_length _ _ _).trans h.len, h.way.stamp g h.len hq hs, ?_, h.lo, h.hi, fun q2 h3 h4 => ?_, fun q2 h3 h4 => ?_⟩
  · rw [cellAt_far (fun e => g.chain 1 hqR (p := 0) (by omega) e.symm)]; exact h.chain
  · rw [cellAt_far (rec_ne hqR ⟨by omega, h4⟩ (by omega) (by omega) (.inl (by omega)))]; exact h.free q2 h3 h4
  · have := h.lo; have := h.hi; have := h.way.hi
    rw [cellAt_far (rec_ne hqR ⟨h3, by omega⟩ (by omega) (by omega) (.inr (by omega)))]; exact h.nat q2 h3 h4
/-- The chain is cut behind a record up to t. -/
theorem Wm.cut (h : Wm C R b d n l t top c1 u) (g : Geo C R b d n) {q : Nat} (hq : 1 ≤ q ∧ q ≤ t) {K : ByteArray} {M : Int} : Wm C R b d n (putAt l (recAt R d q 2) (0, K, M)) t top c1 u := by
  have hhi := h.way.hi
  have hle := h.way.le
  have hqR : 1 ≤ q ∧ (q : Int) ≤ R := ⟨by omega, by omega⟩
  refine ⟨(putAt_length _ _ _).trans h.len, h.way.cut g h.len hq, ?_, h.lo, h.hi, fun q2 h3 h4 => ?_, fun q2 h3 h4 => ?_⟩
  · rw [cellAt_far (fun e => g.chain 1 hqR (p := 2) (by omega) e.symm)]; exact h.chain
  · rw [cellAt_far (rec_ne hqR ⟨by omega, h4⟩ (by omega) (by omega) (.inl (by omega)))]; exact h.free q2 h3 h4
  · have := h.lo; have := h.hi; have := h.way.hi
    rw [cellAt_far (rec_ne hqR ⟨h3, by omega⟩ (by omega) (by omega) (.inr (by omega)))]; exact h.nat q2 h3 h4
end

/-! ### A search among the writer's stores -/
/-- A Lookup's search at t: at most e steps (its last one, the value's, not counted) are left. -/
def SeaL (t top nw rc st ph e : Nat) : Prop :=
  (ph = 0 ∧ e = 2 * 100 + 2) ∨ (1 ≤ rc ∧ t ≤ rc ∧ rc ≤ top ∧ rc ≤ 100 ∧ ((ph = 1 ∧ e = 2 * (rc - t) + 1) ∨ (ph = 2 ∧ t < rc ∧ e = 2 * (rc - t)) ∨ (ph = 3 ∧ rc = t ∧ st = t ∧ e = 0)))
theorem SeaL.grow {t top top' nw rc st ph e : Nat} (h : SeaL t top nw rc st ph e) (hh : top ≤ top') : SeaL t top' nw rc st ph e := by
  rcases h with h | ⟨h1, h2, h3, h4, h5⟩
  · exact .inl h
  · exact .inr ⟨h1, h2, by omega, h4, h5⟩
/-- A Truncate's search at a floor of at most t. -/
def SeaT (t top rc ph : Nat) : Prop := ph = 0 ∨ (1 ≤ rc ∧ rc ≤ top ∧ (ph = 1 ∨ ph = 2 ∨ (ph = 3 ∧ rc ≤ t)))
/-- What a read at t sees where the record t holds u, or where there is no such record. -/
def seen (t : Nat) (u : ByteArray × Bool) : ByteArray × Bool := if t = 0 then (⟨#[]⟩, false) else val t [((t, u) : Ve)]
theorem Cnt.seen {xs : List Ve} {n t : Nat} (h : Cnt xs n) (ht : t ≤ n) {x : Ve} (hx : 0 < t → xs[n - t]? = some x) : val t xs = Go.Proofs.Ytpamjbjgckaedaa.seen t x.2 := by
  unfold Go.Proofs.Ytpamjbjgckaedaa.seen
  by_cases h0 : t = 0
  · subst h0
    rw [if_pos rfl]
    have := h.none
    unfold val; rw [this]
  · rw [if_neg h0]
    have h1 := hx (by omega)
    have h2 := h.2 _ _ h1
    have h3 : x.1 = t := by omega
    have hr : rch t x = true := rch_iff.2 ⟨by omega, by omega⟩
    have hf : Plain.fnd t xs = n - t := h.fnd ht
    rw [val_at (j := n - t) (by omega) h1 hr]
    have e : x = (t, x.2) := by rw [← h3]
    rw [e]
end Go.Proofs.Ytpamjbjgckaedaa
