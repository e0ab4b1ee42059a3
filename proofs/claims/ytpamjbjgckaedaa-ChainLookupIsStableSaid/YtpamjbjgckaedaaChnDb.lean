/-
  Plain facts about a memory in which one chain has versions: what the stores of Install, Stamp, Restore and Truncate leave, what a search on its way through the chain has come to. No program is spoken of. Condition: none.
-/
import Derived.Test.YtpamjbjgckaedaaChnPlain
namespace Go.Proofs.Ytpamjbjgckaedaa
open Plain
set_option linter.unusedVariables false

/-- Chain 1 holds these records, no other chain has one; the records above nx are pending. -/
structure Db (C R b d : Int) (n : Nat) (l : List Cel) (rs : List (Nat × Ve)) (nx : Nat) : Prop where
  len : l.length = n
  one : (cellAt l (chainAt C b ((1 : Nat) : Int))).1 = (num rs 0 : Int)
  oth : ∀ c : Nat, c ≠ 1 → (cellAt l (chainAt C b (c : Int))).1 = 0
  lnk : Lnk R d l rs (num rs 0)
  desc : DescN rs
  top : num rs 0 ≤ nx
  free : ∀ q : Nat, nx < q → (q : Int) ≤ R → (cellAt l (recAt R d q 0)).1 = 0

section
variable {C R b d : Int} {n : Nat} {l : List Cel} {rs : List (Nat × Ve)} {nx : Nat}
theorem Db.mem (h : Db C R b d n l rs nx) {i : Nat} {x : Nat × Ve} (hx : rs[i]? = some x) : x.1 ≤ nx := Nat.le_trans (h.desc.le hx) h.top
theorem Db.mem' (h : Db C R b d n l rs nx) {x : Nat × Ve} (hx : x ∈ rs) : x.1 ≤ nx := by
  obtain ⟨i, hi, rfl⟩ := List.getElem_of_mem hx
  exact h.mem (List.getElem?_eq_getElem hi)
/-- A store to the value or the next one of a record that is not there yet. -/
theorem Db.fresh (h : Db C R b d n l rs nx) (g : Geo C R b d n) {q : Nat} (h1 : nx < q) (h2 : (q : Int) ≤ R) {p : Int} (hp : 1 ≤ p ∧ p < 3) (c : Cel) : Db C R b d n (putAt l (recAt R d q p) c) rs nx := by
  have hq : 1 ≤ q ∧ (q : Int) ≤ R := ⟨by omega, h2⟩
  refine ⟨(putAt_length _ _ _).trans h.len, ?_, fun c2 hc2 => ?_, h.lnk.other hq (by omega) (fun x hx => ?_) c, h.desc, h.top, fun q2 h3 h4 => ?_⟩
  · rw [cellAt_far (fun e => g.chain 1 hq (p := p) (by omega) e.symm)]; exact h.one
  · rw [cellAt_far (fun e => g.chain c2 hq (p := p) (by omega) e.symm)]; exact h.oth c2 hc2
  · have := h.mem' hx; omega
  · rw [cellAt_far (rec_ne hq ⟨by omega, h4⟩ (by omega) (by omega) (.inr (by omega)))]; exact h.free q2 h3 h4
theorem chain_ne {c : Nat} (h : c ≠ 1) (hC : 1 ≤ C) (hb : 0 ≤ b) : chainAt C b ((1 : Nat) : Int) ≠ chainAt C b (c : Int) := by
  unfold chainAt
  rw [if_pos (by omega)]
  split <;> omega
/-- The new record becomes the newest one. -/
theorem Db.push (h : Db C R b d n l rs nx) (g : Geo C R b d n) (hC : 1 ≤ C) (h2 : ((nx + 1 : Nat) : Int) ≤ R) {v : ByteArray × Bool} {K : ByteArray} {M : Int}
    (hv : (cellAt l (recAt R d (nx + 1 : Nat) 1)).2.1 = v.1) (hd : (cellAt l (recAt R d (nx + 1 : Nat) 1)).2.2 = if v.2 = true then 1 else 0) (hn : (cellAt l (recAt R d (nx + 1 : Nat) 2)).1 = (num rs 0 : Int)) :
    Db C R b d n (putAt l (chainAt C b ((1 : Nat) : Int)) (((nx + 1 : Nat) : Int), K, M)) ((nx + 1, (0, v)) :: rs) (nx + 1) := by
  have hq : 1 ≤ nx + 1 ∧ ((nx + 1 : Nat) : Int) ≤ R := ⟨by omega, h2⟩
  have hin := g.cin (c := 1) ⟨by omega, by omega⟩
  refine ⟨(putAt_length _ _ _).trans h.len, ?_, fun c2 hc2 => ?_, ?_, h.desc.cons (by have := h.top; simp only; omega), Nat.le_refl _, fun q2 h3 h4 => ?_⟩
  · rw [cellAt_own hin.1 (by rw [h.len]; exact hin.2)]; rfl
  · rw [cellAt_far (chain_ne hc2 hC g.b0)]; exact h.oth c2 hc2
  · refine (h.lnk.chain g 1 _).push (v := (0, v)) ⟨hq.1, hq.2, ?_, ?_, ?_, ?_⟩
    · rw [cellAt_far (g.chain 1 hq (by omega))]; simpa using h.free _ (Nat.lt_succ_self _) h2
    · rw [cellAt_far (g.chain 1 hq (by omega))]; exact hv
    · rw [cellAt_far (g.chain 1 hq (by omega))]; exact hd
    · rw [cellAt_far (g.chain 1 hq (by omega))]; exact hn
  · rw [cellAt_far (g.chain 1 ⟨by omega, h4⟩ (by omega))]; exact h.free q2 (by omega) h4
/-- The newest record gets its stamp. -/
theorem Db.stamp {q : Nat} {v : Ve} (h : Db C R b d n l ((q, v) :: rs) nx) (g : Geo C R b d n) (t : Nat) {K : ByteArray} {M : Int} : Db C R b d n (putAt l (recAt R d q 0) ((t : Int), K, M)) ((q, (t, v.2)) :: rs) nx := by
  have h0 := h.lnk.recs 0 q v rfl
  have hq : 1 ≤ q ∧ (q : Int) ≤ R := ⟨h0.lo, h0.hi⟩
  refine ⟨(putAt_length _ _ _).trans h.len, ?_, fun c2 hc2 => ?_, h.lnk.stamp h.desc g h.len t, ?_, h.top, fun q2 h3 h4 => ?_⟩
  · rw [cellAt_far (fun e => g.chain 1 hq (p := 0) (by omega) e.symm)]; exact h.one
  · rw [cellAt_far (fun e => g.chain c2 hq (p := 0) (by omega) e.symm)]; exact h.oth c2 hc2
  · intro i x y hx hy
    cases i with
    | zero => simp at hx; subst hx; exact h.desc 0 (q, v) y rfl hy
    | succ i => exact h.desc (i + 1) x y hx hy
  · have : q ≤ nx := h.top
    rw [cellAt_far (rec_ne hq ⟨by omega, h4⟩ (by omega) (by omega) (.inl (by omega)))]; exact h.free q2 h3 h4
theorem DescN.tail {x : Nat × Ve} (h : DescN (x :: rs)) : DescN rs := fun i a c ha hc => h (i + 1) a c ha hc
/-- The newest record is taken back. -/
theorem Db.restore {q : Nat} {v : Ve} (h : Db C R b d n l ((q, v) :: rs) nx) (g : Geo C R b d n) (hC : 1 ≤ C) {K : ByteArray} {M : Int} : Db C R b d n (putAt l (chainAt C b ((1 : Nat) : Int)) ((num rs 0 : Int), K, M)) rs nx := by
  have hin := g.cin (c := 1) ⟨by omega, by omega⟩
  refine ⟨(putAt_length _ _ _).trans h.len, ?_, fun c2 hc2 => ?_, h.lnk.tail.chain g 1 _, h.desc.tail, ?_, fun q2 h3 h4 => ?_⟩
  · rw [cellAt_own hin.1 (by rw [h.len]; exact hin.2)]
  · rw [cellAt_far (chain_ne hc2 hC g.b0)]; exact h.oth c2 hc2
  · cases rs with
    | nil => exact Nat.zero_le _
    | cons y r => exact h.mem (i := 1) (x := y) rfl
  · rw [cellAt_far (g.chain 1 ⟨by omega, h4⟩ (by omega))]; exact h.free q2 h3 h4
/-- The chain is cut behind one of its records. -/
theorem Db.cut {p q : Nat} {v : Ve} (h : Db C R b d n l rs nx) (g : Geo C R b d n) (hp : rs[p]? = some (q, v)) {K : ByteArray} {M : Int} : Db C R b d n (putAt l (recAt R d q 2) (0, K, M)) (rs.take (p + 1)) nx := by
  have h0 := h.lnk.recs p q v hp
  have hq : 1 ≤ q ∧ (q : Int) ≤ R := ⟨h0.lo, h0.hi⟩
  have hn0 : num (rs.take (p + 1)) 0 = num rs 0 := num_take (by omega)
  refine ⟨(putAt_length _ _ _).trans h.len, ?_, fun c2 hc2 => ?_, ?_, h.desc.take _, by rw [hn0]; exact h.top, fun q2 h3 h4 => ?_⟩
  · rw [cellAt_far (fun e => g.chain 1 hq (p := 2) (by omega) e.symm), hn0]; exact h.one
  · rw [cellAt_far (fun e => g.chain c2 hq (p := 2) (by omega) e.symm)]; exact h.oth c2 hc2
  · rw [hn0]; exact h.lnk.cut h.desc g h.len hp
  · rw [cellAt_far (rec_ne hq ⟨by omega, h4⟩ (by omega) (by omega) (.inr (by omega)))]; exact h.free q2 h3 h4
end

/-! ### The versions of the records -/
def vrs (rs : List (Nat × Ve)) : List Ve := rs.map (·.2)
theorem vrs_length (rs : List (Nat × Ve)) : (vrs rs).length = rs.length := List.length_map _
theorem vrs_at {rs : List (Nat × Ve)} {j q : Nat} {x : Ve} (h : rs[j]? = some (q, x)) : (vrs rs)[j]? = some x := by unfold vrs; rw [List.getElem?_map, h]; rfl
theorem vrs_take (rs : List (Nat × Ve)) (k : Nat) : vrs (rs.take k) = (vrs rs).take k := by unfold vrs; rw [List.map_take]
theorem vrs_cons (q : Nat) (x : Ve) (rs : List (Nat × Ve)) : vrs ((q, x) :: rs) = x :: vrs rs := rfl
theorem val_one {t st : Nat} {K : ByteArray} {D : Bool} (h : rch t (st, K, D) = true) : val t [((st, K, D) : Ve)] = if D = true then (⟨#[]⟩, false) else (K, true) := by
  have : vis t [((st, K, D) : Ve)] = ((st, K, D), true) := vis_yes (by rw [fnd_head.2 h]; rfl)
  unfold val; rw [this]
theorem val_at {t : Nat} {xs : List Ve} {j : Nat} {x : Ve} (hj : j ≤ fnd t xs) (hx : xs[j]? = some x) (h : rch t x = true) : val t xs = val t [x] := by
  have h1 : vis t xs = (x, true) := vis_yes (by rw [fnd_hit hj hx h]; exact hx)
  have h2 : vis t [x] = (x, true) := vis_yes (by rw [fnd_head.2 h]; rfl)
  unfold val; rw [h1, h2]
theorem val_none {t : Nat} {xs : List Ve} (h : fnd t xs = xs.length) : val t xs = (⟨#[]⟩, false) := by
  unfold val; rw [vis_no h]
theorem dead_one {t : Nat} {x : Ve} (r : List Ve) : dead t [x] = dead t (x :: r) := rfl
theorem dead_not {t : Nat} {xs : List Ve} (h0 : 0 < xs.length) (h : fnd t xs ≠ 0) : dead t xs = false := by
  cases xs with
  | nil => simp at h0
  | cons x r =>
    have : rch t x = false := by
      cases hr : rch t x
      · rfl
      · exact absurd (fnd_head.2 hr) h
    show (rch t x && x.2.2) = false
    rw [this]; rfl

/-! ### A search on its way -/
/-- Where a search at t is that has found nothing yet: it is to load the newest record, or it has come to record j, whose stamp it is to load (1), or which it has passed (2), or which it has found (3); at most d loads of stamps and numbers are left. -/
def Sea (rs : List (Nat × Ve)) (t nw rc st ph d : Nat) : Prop :=
  (ph = 0 ∧ d = 2 * rs.length + 1) ∨ (nw = num rs 0 ∧ ∃ j x, rs[j]? = some (rc, x) ∧ j ≤ fnd t (vrs rs) ∧
    ((ph = 1 ∧ d = 2 * (rs.length - j)) ∨ (ph = 2 ∧ rch t x = false ∧ d + 1 = 2 * (rs.length - j)) ∨ (ph = 3 ∧ rch t x = true ∧ st = x.1 ∧ d = 0)))
/-- It has come to the end. -/
def End (rs : List (Nat × Ve)) (t nw ph : Nat) : Prop := ph = 4 ∧ nw = num rs 0 ∧ fnd t (vrs rs) = rs.length
theorem sea_start (rs : List (Nat × Ve)) (t st : Nat) : Sea rs t 0 0 st 0 (2 * rs.length + 1) := .inl ⟨rfl, rfl⟩
section
variable {C R b d0 : Int} {n : Nat} {l : List Cel} {rs : List (Nat × Ve)} {nx t nw rc st ph d : Nat}
/-- It goes to record j, or to the end where there is none. -/
theorem go_next {r j : Nat} (hL : Lnk R d0 l rs r) (hnw : nw = num rs 0) (hj : j ≤ fnd t (vrs rs)) (hd : 2 * (rs.length - j) ≤ d) : ∃ ph2, (if num rs j = 0 then 4 else 1) = ph2 ∧ ((∃ d2, Sea rs t nw (num rs j) st ph2 d2 ∧ d2 ≤ d ∧ ph2 = 1) ∨ End rs t nw ph2) := by
  by_cases hlt : j < rs.length
  · obtain ⟨q, x, hx⟩ : ∃ q x, rs[j]? = some (q, x) := ⟨_, _, List.getElem?_eq_getElem hlt⟩
    have h0 := (hL.pos hlt).1
    exact ⟨1, by rw [if_neg (by omega)], .inl ⟨_, .inr ⟨hnw, j, x, by rw [num_some hx]; exact hx, hj, .inl ⟨rfl, rfl⟩⟩, hd, rfl⟩⟩
  · have h1 := fnd_le t (vrs rs)
    rw [vrs_length] at h1
    exact ⟨4, by rw [if_pos (num_none (by omega))], .inr ⟨rfl, hnw, by omega⟩⟩
end
end Go.Proofs.Ytpamjbjgckaedaa
