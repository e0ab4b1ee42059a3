/-
  Plain facts for the walks of layer 10's statements. Condition: none.
-/
import Derived.Test.YtpamjbjgckaedaaChnAwake
import Derived.Test.YtpamjbjgckaedaaChnRows
import Derived.Test.YtpamjbjgckaedaaChnSame
namespace Go.Proofs.Ytpamjbjgckaedaa
open Go.RowKit Go.Deep Plain
set_option linter.unusedVariables false

theorem Wx.far {B : Nat} {w w' : World} {s b g k nx : Nat} {rs : List (Nat × Ve)} {Y : Nat → Prop} (h : Wx B w s b g k nx rs) (hk : Kept Y w w') (hb : ¬ Y b) (hg : ¬ Y g) (hs : ¬ Y s) : Wx B w' s b g k nx rs := by
  obtain ⟨l, hm, hd⟩ := h.db
  exact ⟨⟨l, hm.kept hk hb hg, hd⟩, hk.blk h.box hs, h.lo, h.ne⟩
theorem dead_cut (f g : Nat) (l : List Ve) : dead f (cut g l) = dead f l := by
  cases l with
  | nil => unfold cut; rw [List.take_nil]
  | cons x r =>
    have h : ∃ m, cutAt g (x :: r) = m + 1 := ⟨cutAt g (x :: r) - 1, by unfold cutAt; simp only [List.length_cons]; omega⟩
    obtain ⟨m, hm⟩ := h
    unfold cut; rw [hm]; rfl
/-- The chain ahead of truncation i, and the floor of truncation i. -/
def zsAt (a b : Nat) (ys : List Ve) (i : Nat) : List Ve := if i = 0 then ys else if i = 1 then cut a ys else cut b ys
def flAt (a b : Nat) (i : Nat) : Nat := if i = 0 then a else b
theorem zs_next {a b : Nat} (h : a ≤ b) (ys : List Ve) (i : Nat) : cut (flAt a b i) (zsAt a b ys i) = zsAt a b ys (i + 1) ∧ zsAt a b ys (i + 1) = cut (flAt a b i) ys ∧ dead (flAt a b i) (zsAt a b ys i) = dead (flAt a b i) ys := by
  unfold zsAt flAt
  by_cases h0 : i = 0
  · subst h0; exact ⟨rfl, rfl, rfl⟩
  · rw [if_neg h0, if_neg h0, if_neg (show ¬ i + 1 = 0 by omega), if_neg (show ¬ i + 1 = 1 by omega)]
    by_cases h1 : i = 1
    · rw [if_pos h1]; exact ⟨cut_cut h ys, rfl, dead_cut _ _ _⟩
    · rw [if_neg h1]; exact ⟨cut_cut (Nat.le_refl b) ys, rfl, dead_cut _ _ _⟩
theorem zs_len (a b : Nat) (ys : List Ve) (i : Nat) : (zsAt a b ys i).length ≤ ys.length := by
  unfold zsAt
  split
  · exact Nat.le_refl _
  · split <;> exact (by rw [cut_length]; exact cutAt_le _ _)
theorem own_new (w : World) (base : Nat) (h : base ≤ w.heap.size) (x : Ve) : (w.alloc (.cells #[.int .u64 (x.1 : Int), .string x.2.1, .bool x.2.2] 51)).ownsRow base 51 3 (.slice (some ⟨w.heap.size, 0, none⟩) 1 1) 1 (flatv [x]) :=
  ⟨rfl, .inr ⟨w.heap.size, 1, _, rfl, h, blk_alloc_new _ _, Nat.le_refl _, by unfold maxLen; omega, rfl, rfl⟩⟩
theorem Rv.kept {w w' : World} {A : Option Addr} {c : Nat} {xs : List Ve} {Y : Nat → Prop} (h : Rv w A c xs) (hk : Kept Y w w') (hY : ∀ a, A = some a → ¬ Y a.block) : Rv w' A c xs :=
  ⟨h.le, h.max, h.none', fun hp => by
    obtain ⟨g, off, e, hg, hc⟩ := h.some' hp
    exact ⟨g, off, e, Nat.lt_of_lt_of_le hg hk.size, fun j u hu => (hk.cell (p := ⟨g, off + j, none⟩) hg (show ¬ Y g from hY _ e)).trans (hc j u hu)⟩⟩
theorem Cnt.succ {ys : List Ve} {j : Nat} (h : Cnt ys j) (v : ByteArray × Bool) : vrs ((j + 1, (j + 1, v)) :: own ys) = (j + 1, v) :: ys := by
  unfold vrs own; simp [List.map_map, Function.comp_def]
theorem Rp.cells {w : World} {ga off c : Nat} {xs : List Stp} (h : Rp w (some ⟨ga, off, none⟩) c xs) {i : Nat} {x : Stp} (hx : xs[i]? = some x) : w.cell? ⟨ga, off + i * 4, none⟩ = some (.int .i64 x.1) ∧ w.cell? ⟨ga, off + i * 4 + 1, none⟩ = some (.string x.2.1) ∧ w.cell? ⟨ga, off + i * 4 + 2, none⟩ = some (.bool x.2.2.1) ∧ w.cell? ⟨ga, off + i * 4 + 3, none⟩ = some (.int .u8 ((x.2.2.2 : Nat) : Int)) := by
  obtain ⟨g, o, e, _, hc⟩ := h.some' (by have := (List.getElem?_eq_some_iff.1 hx).1; omega)
  cases e
  exact hc i x hx
theorem val_pend (t : Nat) (v : ByteArray × Bool) (xs : List Ve) : val t ((0, v) :: xs) = val t xs := by
  have hr : rch t ((0, v) : Ve) = false := rch_no.2 fun h => absurd rfl h
  have hf : fnd t ((0, v) :: xs) = fnd t xs + 1 := by
    refine fnd_unique (fun i x hi hx => ?_) ?_ (fun x hx => ?_)
    · cases i with
      | zero => simp at hx; subst hx; exact hr
      | succ i => exact fnd_before t xs i x (by omega) (by simpa using hx)
    · have := fnd_le t xs; simp; omega
    · exact fnd_at t xs x (by simpa using hx)
  unfold val vis
  rw [hf, List.getElem?_cons_succ]
theorem vrs_own (ys : List Ve) : vrs (own ys) = ys := by unfold vrs own; simp [List.map_map, Function.comp_def]
theorem own_cons (x : Ve) (ys : List Ve) : own (x :: ys) = (x.1, x) :: own ys := rfl
theorem own_length (ys : List Ve) : (own ys).length = ys.length := List.length_map _
end Go.Proofs.Ytpamjbjgckaedaa
