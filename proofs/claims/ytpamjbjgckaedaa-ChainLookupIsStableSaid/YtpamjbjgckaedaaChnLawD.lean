/-
  What holds of the chain, the list and the numbers of ChainBuilds. Condition: none.
-/
import Derived.Test.YtpamjbjgckaedaaChnLawC
namespace Go.Proofs.Ytpamjbjgckaedaa
open Go.RowKit Go.Deep Plain
set_option linter.unusedVariables false

theorem own_kept {w w' : World} {base e size n : Nat} {v : Value} {xs : List Value} {Y : Nat → Prop} (h : w.ownsRow base e size v n xs) (hk : Kept Y w w') (hY : ∀ i, v.ownBlock = some i → ¬ Y i) : w'.ownsRow base e size v n xs := by
  refine ⟨h.1, ?_⟩
  rcases h.2 with hn | ⟨g, cap, cur, rfl, hg, hh, rest⟩
  · exact .inl hn
  · exact .inr ⟨g, cap, cur, rfl, hg, (hk.block g (Array.getElem?_eq_some_iff.1 hh).1 (hY g rfl)).trans hh, rest⟩
theorem Rv.cells {w : World} {ga off c : Nat} {xs : List Ve} (h : Rv w (some ⟨ga, off, none⟩) c xs) {i : Nat} {x : Ve} (hx : xs[i]? = some x) : w.cell? ⟨ga, off + i * 3, none⟩ = some (.int .u64 (x.1 : Int)) ∧ w.cell? ⟨ga, off + i * 3 + 1, none⟩ = some (.string x.2.1) ∧ w.cell? ⟨ga, off + i * 3 + 2, none⟩ = some (.bool x.2.2) := by
  obtain ⟨g, o, e, _, hc⟩ := h.at (by have := (List.getElem?_eq_some_iff.1 hx).1; omega)
  cases e
  exact hc i x hx
theorem Rv.tail {w : World} {ga off c : Nat} {x : Ve} {xs : List Ve} (h : Rv w (some ⟨ga, off, none⟩) c (x :: xs)) : Rv w (some ⟨ga, off + 3, none⟩) (c - 1) xs :=
  ⟨by have := h.le; simp at this; omega, by have := h.max; omega, fun e => (by cases e), fun hp => by
    obtain ⟨g, o, e, hg, hc⟩ := h.some' (by simp)
    cases e
    refine ⟨ga, off + 3, rfl, hg, fun j u hu => ?_⟩
    have := hc (j + 3) u (by simpa [flatv] using hu)
    rw [show off + 3 + j = off + (j + 3) by omega]; exact this⟩
theorem Rv.tail2 {w : World} {ga off c : Nat} {x : Ve} {xs : List Ve} (h : Rv w (some ⟨ga, off, none⟩) c (x :: xs)) : Rv w (if c = 1 then some ⟨ga, off, none⟩ else some ⟨ga, off + 3, none⟩) (c - 1) xs := by
  by_cases hc : c = 1
  · rw [if_pos hc]
    have := h.tail
    exact ⟨this.le, this.max, fun e => (by cases e), fun hp => absurd this.le (by omega)⟩
  · rw [if_neg hc]; exact h.tail
theorem wrap_i (n : Int) (h : -9223372036854775808 ≤ n ∧ n < 9223372036854775808) : IntKind.i64.wrap n = n := by rw [IntKind.wrap_i64]; omega
theorem neq_ver (a : Nat) (s : ByteArray) (d : Bool) (w : World) : (binOp .neq 51 (.agg #[.int .u64 (a : Int), .string s, .bool d]) (.agg #[.int .u64 (a : Int), .string s, .bool d])).run Try.prog w = .ok (.bool false) w := by simp [go_sem]
/-- The world of ChainBuilds: the chain's records rs, the list ys at (A, c), the records' numbers ws at vw. -/
structure Bd (B : Nat) (w0 w : World) (s b g k nx m : Nat) (rs : List (Nat × Ve)) (A : Option Addr) (c : Nat) (ys : List Ve) (vw : Value) (ws : List Nat) : Prop where
  wx : Wx B w s b g k nx rs
  ver : vrs rs = ys
  len : ys.length = m
  list : Rv w A c ys
  la : ∀ a, A = some a → s < a.block
  recs : w.ownsRow (s + 1) 23 1 vw ws.length (words ws)
  far : ∀ a, A = some a → ¬ vw.ownBlock = some a.block
  last : 0 < m → 0 < ws.length ∧ ws[ws.length - 1]? = some (num rs 0)
  wn : ws.length ≤ nx
  mn : m ≤ nx
  bs : b < s ∧ g < s
  kept : Kept (Own b g) w0 w
section
variable {B : Nat} {w0 w w' : World} {s b g k k' nx nx' m : Nat} {rs rs' : List (Nat × Ve)} {A : Option Addr} {c : Nat} {ys : List Ve} {vw : Value} {ws : List Nat}
theorem Bd.rlt (h : Bd B w0 w s b g k nx m rs A c ys vw ws) {i : Nat} (hi : vw.ownBlock = some i) : i < w.heap.size ∧ s < i := by
  have := h.recs.lt i hi
  exact ⟨this.2, this.1⟩
theorem Bd.rlen (h : Bd B w0 w s b g k nx m rs A c ys vw ws) : rs.length = m := by rw [← h.len, ← h.ver, vrs_length]
/-- The list and the numbers behind a call that writes to the memory's blocks alone. -/
theorem Bd.listK (h : Bd B w0 w s b g k nx m rs A c ys vw ws) (hk : Kept (Own b g) w w') : Rv w' A c ys := h.list.kept hk (fun a ha e => by have := h.la a ha; have := h.bs; rcases e with e | e <;> omega)
theorem Bd.recsK (h : Bd B w0 w s b g k nx m rs A c ys vw ws) (hk : Kept (Own b g) w w') : w'.ownsRow (s + 1) 23 1 vw ws.length (words ws) := own_kept h.recs hk (fun i hi e => by have := h.rlt hi; have := h.bs; rcases e with e | e <;> omega)
/-- Behind a call that leaves the chain as it was. -/
theorem Bd.mem (h : Bd B w0 w s b g k nx m rs A c ys vw ws) (hW : Wx B w' s b g k' nx rs) (hk : Kept (Own b g) w w') : Bd B w0 w' s b g k' nx m rs A c ys vw ws :=
  ⟨hW, h.ver, h.len, h.listK hk, h.la, h.recsK hk, h.far, h.last, h.wn, h.mn, h.bs, h.kept.trans hk (fun _ _ h => h)⟩
theorem Bd.weak (h : Bd B w0 w s b g k nx m rs A c ys vw ws) (hk : Kept (fun _ => False) w w') : Bd B w0 w' s b g k nx m rs A c ys vw ws := h.mem (h.wx.kept hk) (hk.mono (fun _ h => h.elim))
/-- A version has been taken back: more records have been used. -/
theorem Bd.used (h : Bd B w0 w s b g k nx m rs A c ys vw ws) (hn : nx ≤ nx') (hW : Wx B w' s b g k' nx' rs) (hk : Kept (Own b g) w w') : Bd B w0 w' s b g k' nx' m rs A c ys vw ws :=
  ⟨hW, h.ver, h.len, h.listK hk, h.la, h.recsK hk, h.far, h.last, Nat.le_trans h.wn hn, Nat.le_trans h.mn hn, h.bs, h.kept.trans hk (fun _ _ h => h)⟩
/-- The chain and the list have been cut (w2: ahead of the cut of the list). -/
theorem Bd.cut {w2 : World} {A' : Option Addr} {c' T m' : Nat} (h : Bd B w0 w s b g k nx m rs A c ys vw ws) (h2 : Kept (Own b g) w w2) (hk : Kept (fun _ => False) w2 w') (hW : Wx B w' s b g k' nx (rs.take (cutAt T (vrs rs)))) (hL : Rv w' A' c' (Plain.cut T ys)) (ha : ∀ a, A' = some a → w2.heap.size ≤ a.block) (hm : cutAt T ys = m') : Bd B w0 w' s b g k' nx m' (rs.take (cutAt T (vrs rs))) A' c' (Plain.cut T ys) vw ws := by
  have hkk : Kept (Own b g) w w' := h2.trans hk (fun _ _ h => h.elim)
  have hs := h2.size
  have hml : m' ≤ m := by rw [← hm, ← h.len]; exact cutAt_le T ys
  have hbx := h.wx.lt
  refine ⟨hW, by rw [vrs_take, h.ver]; rfl, by rw [cut_length, hm], hL, fun a e => by have := ha a e; omega, h.recsK hkk, fun a e hv => ?_, fun h0 => ?_, h.wn, Nat.le_trans hml h.mn, h.bs, h.kept.trans hkk (fun _ _ h => h)⟩
  · have := ha a e; have := (h.rlt hv).1; omega
  · have := h.last (by omega)
    rw [num_take (by rw [h.ver, hm]; exact h0)]; exact this
/-- A version has been put in front (w2: ahead of that of the list). -/
theorem Bd.push {A' : Option Addr} {c' t : Nat} {v : ByteArray × Bool} {g4 cap4 : Nat} (h : Bd B w0 w s b g k nx m rs A c ys vw ws) (hW : Wx B w' s b g k' (nx + 1) ((nx + 1, (t, v)) :: rs)) (hk : Kept (Own b g) w0 w') (hL : Rv w' A' c' ((t, v) :: ys)) (ha : ∀ a, A' = some a → s < a.block ∧ a.block ≠ g4)
    (hO : w'.ownsRow (s + 1) 23 1 (.slice (some ⟨g4, 0, none⟩) (ws.length + 1) cap4) (ws.length + 1) (words (ws ++ [nx + 1]))) : Bd B w0 w' s b g k' (nx + 1) (m + 1) ((nx + 1, (t, v)) :: rs) A' c' ((t, v) :: ys) (.slice (some ⟨g4, 0, none⟩) (ws.length + 1) cap4) (ws ++ [nx + 1]) := by
  have := h.wn; have := h.mn
  refine ⟨hW, by rw [vrs_cons, h.ver], by simp [h.len], hL, fun a e => (ha a e).1, by rw [List.length_append]; exact hO, fun a e hv => ?_, fun _ => ?_, by simp; omega, by omega, h.bs, hk⟩
  · have := (ha a e).2
    simp [Value.ownBlock] at hv
    omega
  · refine ⟨by simp, ?_⟩
    rw [List.length_append]
    simp; rfl
end
theorem cells4 {w w' : World} {ga p : Nat} {u0 u1 u2 u3 : Value} (h : w.cell? ⟨ga, p, none⟩ = some u0 ∧ w.cell? ⟨ga, p + 1, none⟩ = some u1 ∧ w.cell? ⟨ga, p + 2, none⟩ = some u2 ∧ w.cell? ⟨ga, p + 3, none⟩ = some u3) (hk : Kept (fun _ => False) w w') (hg : ga < w.heap.size) : w'.cell? ⟨ga, p, none⟩ = some u0 ∧ w'.cell? ⟨ga, p + 1, none⟩ = some u1 ∧ w'.cell? ⟨ga, p + 2, none⟩ = some u2 ∧ w'.cell? ⟨ga, p + 3, none⟩ = some u3 :=
  ⟨(hk.cell (p := ⟨ga, p, none⟩) hg (fun h => h)).trans h.1, (hk.cell (p := ⟨ga, p + 1, none⟩) hg (fun h => h)).trans h.2.1, (hk.cell (p := ⟨ga, p + 2, none⟩) hg (fun h => h)).trans h.2.2.1, (hk.cell (p := ⟨ga, p + 3, none⟩) hg (fun h => h)).trans h.2.2.2⟩
end Go.Proofs.Ytpamjbjgckaedaa
