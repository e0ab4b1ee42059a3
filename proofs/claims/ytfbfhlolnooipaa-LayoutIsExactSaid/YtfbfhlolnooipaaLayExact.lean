/-
  Plain facts for layer 3's statement 'every address belongs to exactly one cell': each address as a natural number; a list of the numbers from 0 on that a call owns; what is kept while it grows. Condition: none.
-/
import Derived.Test.YtfbfhlolnooipaaLayLetters
import Derived.Deep.AppendLies
namespace Go.Proofs.Ytfbfhlolnooipaa
open Go.RowKit Go.Deep
set_option linter.unusedVariables false

def iota (m : Nat) : List Value := (List.range m).map fun (k : Nat) => .int .i64 (k : Int)
theorem iota_length (m : Nat) : (iota m).length = m := by simp [iota]
theorem iota_succ (m : Nat) : iota m ++ [.int .i64 (m : Int)] = iota (m + 1) := by simp [iota, List.range_succ]
theorem iota_3 (m : Nat) : iota m ++ [.int .i64 (m : Int), .int .i64 ((m + 1 : Nat) : Int), .int .i64 ((m + 2 : Nat) : Int)] = iota (m + 3) := by
  rw [← iota_succ (m + 2), ← iota_succ (m + 1), ← iota_succ m]; simp
theorem iota_4 (m : Nat) : iota m ++ [.int .i64 (m : Int), .int .i64 ((m + 1 : Nat) : Int), .int .i64 ((m + 2 : Nat) : Int), .int .i64 ((m + 3 : Nat) : Int)] = iota (m + 4) := by
  rw [← iota_succ (m + 3), ← iota_3 m]; simp
theorem iota_at (m k : Nat) (h : k < m) : (iota m)[k]? = some (.int .i64 (k : Int)) := by simp [iota, h]
theorem iota_one (m : Nat) : ∀ u ∈ iota m, u.oneCell' = true := fun u hu => by
  simp only [iota, List.mem_map] at hu
  obtain ⟨_, _, rfl⟩ := hu; rfl

theorem snapAt_nat (T S t j : Nat) (ht : t < T) (hj : j < S) : snapAt T S t j = ((8 + t * S + j : Nat) : Int) := by
  unfold snapAt; rw [if_pos (by omega)]; simp
theorem nodeAt_nat (N F a j p : Nat) (h : j < N) : nodeAt N F a ((j : Int) + 1) p = ((a + j * (F + 4) + p : Nat) : Int) := by
  unfold nodeAt
  rw [if_pos (by omega), show ((j : Int) + 1 - 1) = j by omega]
  simp only [Int.natCast_add, Int.natCast_mul, Int.mul_add]
  rfl
theorem slotAt_nat (N F a j i : Nat) (h : j < N) (hi : i < F) : slotAt N F a ((j : Int) + 1) i = ((a + j * (F + 4) + 4 + i : Nat) : Int) := by
  unfold slotAt
  rw [if_pos (by omega), show (4 : Int) + i = ((4 + i : Nat) : Int) by simp, nodeAt_nat N F a j (4 + i) h]
  congr 1; omega
theorem chainAt_nat (C b j : Nat) (h : j < C) : chainAt C b ((j : Int) + 1) = ((b + j : Nat) : Int) := by
  unfold chainAt; rw [if_pos (by omega)]; omega
theorem recAt_nat (R d j p : Nat) (h : j < R) : recAt R d ((j : Int) + 1) p = ((d + j * 3 + p : Nat) : Int) := by
  unfold recAt; rw [if_pos (by omega)]; omega

/-- The slice v owns the numbers from 0 to m - 1; the layout at block s and the configuration at block r are as they were; nothing older has changed. -/
structure All (w wr : World) (B s r : Nat) (L C : List Value) (v : Value) (m : Nat) : Prop where
  own : wr.ownsRow B 3 1 v m (iota m)
  l : Blk wr s 27 L
  c : Blk wr r 24 C
  kept : Kept (fun _ => False) w wr
  s1 : s < B
  r1 : r < B
  b1 : w.heap.size ≤ B
  b2 : B ≤ wr.heap.size
section
variable {w wr w' w3 w4 : World} {B s r : Nat} {L C : List Value} {v v' : Value} {m : Nat}
theorem ownsRow_kept {base e size n : Nat} {xs : List Value} (h : wr.ownsRow base e size v n xs) (hk : Kept (fun _ => False) wr w') : w'.ownsRow base e size v n xs := by
  refine ⟨h.1, ?_⟩
  rcases h.2 with hn | ⟨g, cap, cur, hv, hb, hg, rest⟩
  · exact .inl hn
  · exact .inr ⟨g, cap, cur, hv, hb, (hk.block g (Array.getElem?_eq_some_iff.1 hg).1 id).trans hg, rest⟩
theorem All.same (h : All w wr B s r L C v m) (hk : Kept (fun _ => False) wr w') : All w w' B s r L C v m :=
  ⟨ownsRow_kept h.own hk, hk.blk h.l id, hk.blk h.c id, h.kept.trans hk (fun _ _ h => h), h.s1, h.r1, h.b1, Nat.le_trans h.b2 hk.size⟩
theorem All.far (h : All w wr B s r L C v m) (k : Nat) (hk : k < B) : ¬ some k = v.ownBlock := fun e => by have := (h.own.lt k e.symm).1; omega
theorem All.push {p : Nat} {news : List Value} (h : All w wr B s r L C v m) (hg : wr.grownBy w4 v.ownBlock) (hown : w4.ownsRow B 3 1 v' (m + p) (iota m ++ news)) (hn : iota m ++ news = iota (m + p)) : All w w4 B s r L C v' (m + p) :=
  ⟨by rw [← hn]; exact hown, h.l.of (hg.block s h.l.lt (h.far s h.s1)), h.c.of (hg.block r h.c.lt (h.far r h.r1)),
   h.kept.grown hg (fun k hk hlt => by have := (h.own.lt k hk).1; have := h.b1; omega), h.s1, h.r1, h.b1, Nat.le_trans h.b2 hg.size⟩
end
theorem own_made (w : World) (base : Nat) (m : Nat) (hb : base ≤ w.heap.size) (hm : m ≤ maxLen) (cs : List Value) (e : cs = iota m) : (w.alloc (.cells ⟨cs⟩ 3)).ownsRow base 3 1 (.slice (some ⟨w.heap.size, 0, none⟩) m m) m (iota m) :=
  ⟨by simp [iota_length], .inr ⟨w.heap.size, m, ⟨cs⟩, rfl, hb, heap_alloc_new w _, Nat.le_refl _, hm, by simp [e, iota_length], by simp [e, List.take_of_length_le, iota_length]⟩⟩

theorem Try.info3 : (Try.prog.info? 3).map (fun i => (i.zero, i.size, i.bytes)) = some (some (.int .i64 0), 1, 8) := by kernel_rfl
theorem Try.info4 : (Try.prog.info? 4).map (fun i => (i.zero, i.size, i.bytes)) = some (some (.bool false), 1, 1) := by kernel_rfl
section
variable {w w' : World} {s : Nat} {x0 x1 x2 x3 x4 x5 x6 x7 x8 x9 : Value}
theorem keep10c (hk : Kept (fun _ => False) w w') (h : w.cell? ⟨s, 0, none⟩ = some x0 ∧ w.cell? ⟨s, 1, none⟩ = some x1 ∧ w.cell? ⟨s, 2, none⟩ = some x2 ∧ w.cell? ⟨s, 3, none⟩ = some x3 ∧ w.cell? ⟨s, 4, none⟩ = some x4 ∧ w.cell? ⟨s, 5, none⟩ = some x5 ∧ w.cell? ⟨s, 6, none⟩ = some x6 ∧ w.cell? ⟨s, 7, none⟩ = some x7 ∧ w.cell? ⟨s, 8, none⟩ = some x8 ∧ w.cell? ⟨s, 9, none⟩ = some x9) : w'.cell? ⟨s, 0, none⟩ = some x0 ∧ w'.cell? ⟨s, 1, none⟩ = some x1 ∧ w'.cell? ⟨s, 2, none⟩ = some x2 ∧ w'.cell? ⟨s, 3, none⟩ = some x3 ∧ w'.cell? ⟨s, 4, none⟩ = some x4 ∧ w'.cell? ⟨s, 5, none⟩ = some x5 ∧ w'.cell? ⟨s, 6, none⟩ = some x6 ∧ w'.cell? ⟨s, 7, none⟩ = some x7 ∧ w'.cell? ⟨s, 8, none⟩ = some x8 ∧ w'.cell? ⟨s, 9, none⟩ = some x9 := by
  obtain ⟨h0, h1, h2, h3, h4, h5, h6, h7, h8, h9⟩ := h
  have hs : s < w.heap.size := World.block_lt_of_cell? w _ h0
  have e : ∀ i, w'.cell? ⟨s, i, none⟩ = w.cell? ⟨s, i, none⟩ := fun i => hk.cell (p := ⟨s, i, none⟩) hs id
  exact ⟨(e _).trans h0, (e _).trans h1, (e _).trans h2, (e _).trans h3, (e _).trans h4, (e _).trans h5, (e _).trans h6, (e _).trans h7, (e _).trans h8, (e _).trans h9⟩
theorem keep10g {row : Option Nat} (hg : w.grownBy w' row) (hne : ¬ some s = row) (h : w.cell? ⟨s, 0, none⟩ = some x0 ∧ w.cell? ⟨s, 1, none⟩ = some x1 ∧ w.cell? ⟨s, 2, none⟩ = some x2 ∧ w.cell? ⟨s, 3, none⟩ = some x3 ∧ w.cell? ⟨s, 4, none⟩ = some x4 ∧ w.cell? ⟨s, 5, none⟩ = some x5 ∧ w.cell? ⟨s, 6, none⟩ = some x6 ∧ w.cell? ⟨s, 7, none⟩ = some x7 ∧ w.cell? ⟨s, 8, none⟩ = some x8 ∧ w.cell? ⟨s, 9, none⟩ = some x9) : w'.cell? ⟨s, 0, none⟩ = some x0 ∧ w'.cell? ⟨s, 1, none⟩ = some x1 ∧ w'.cell? ⟨s, 2, none⟩ = some x2 ∧ w'.cell? ⟨s, 3, none⟩ = some x3 ∧ w'.cell? ⟨s, 4, none⟩ = some x4 ∧ w'.cell? ⟨s, 5, none⟩ = some x5 ∧ w'.cell? ⟨s, 6, none⟩ = some x6 ∧ w'.cell? ⟨s, 7, none⟩ = some x7 ∧ w'.cell? ⟨s, 8, none⟩ = some x8 ∧ w'.cell? ⟨s, 9, none⟩ = some x9 := by
  obtain ⟨h0, h1, h2, h3, h4, h5, h6, h7, h8, h9⟩ := h
  have hs : s < w.heap.size := World.block_lt_of_cell? w _ h0
  have e : ∀ i, w'.cell? ⟨s, i, none⟩ = w.cell? ⟨s, i, none⟩ := fun i => hg.cell_far ⟨s, i, none⟩ hs hne
  exact ⟨(e _).trans h0, (e _).trans h1, (e _).trans h2, (e _).trans h3, (e _).trans h4, (e _).trans h5, (e _).trans h6, (e _).trans h7, (e _).trans h8, (e _).trans h9⟩
end
theorem own_slice {w : World} {base e size n : Nat} {v : Value} {xs : List Value} (h : w.ownsRow base e size v n xs) (hn : 0 < n) :
    ∃ g cap, v = .slice (some ⟨g, 0, none⟩) n cap ∧ base ≤ g ∧ g < w.heap.size ∧ ∀ j u, xs[j]? = some u → w.cell? ⟨g, j, none⟩ = some u := by
  rcases h.2 with ⟨_, h0⟩ | ⟨g, cap, cur, rfl, hb, hg, rest⟩
  · omega
  · refine ⟨g, cap, rfl, hb, (Array.getElem?_eq_some_iff.1 hg).1, fun j u hu => ?_⟩
    have := h.cells (g := g) rfl j u hu
    rw [Addr.add_lit, Nat.zero_add] at this
    exact this
theorem made_row (z : Value) (n : Nat) : madeCells #[z] n = ⟨List.replicate n z⟩ := by
  apply Array.ext'
  apply List.ext_getElem?
  intro j
  by_cases hj : j < n
  · simp [madeCells, hj, Nat.mod_one]
  · rw [List.getElem?_eq_none (by simp [madeCells]; omega), List.getElem?_eq_none (by simp; omega)]
theorem make_bool (n : Nat) (hn : n ≤ 1099511627776) (w : World) :
    (Instr.makeSlice 47 (.int .i64 (n : Int)) (.int .i64 (n : Int))).run Try.prog w = .ok (.slice (some ⟨w.heap.size, 0, none⟩) n n) (w.alloc (.cells ⟨List.replicate n (.bool false)⟩ 4)) := by
  rw [run_make_row' (P := Try.prog) 47 4 _ 1 Try.underlying47 Try.info4 rfl .i64 .i64 n (by omega) (by omega) w, made_row]
def marks (k n : Nat) : List Value := List.replicate k (.bool true) ++ List.replicate (n - k) (.bool false)
theorem marks_0 (n : Nat) : marks 0 n = List.replicate n (.bool false) := by simp [marks]
theorem marks_at (k n : Nat) (h : k < n) : (marks k n)[k]? = some (.bool false) := by
  unfold marks; rw [List.getElem?_append_right (by simp), List.length_replicate, Nat.sub_self, List.getElem?_replicate, if_pos (by omega)]
theorem marks_set (k n : Nat) (h : k < n) : (marks k n).set k (.bool true) = marks (k + 1) n := by
  unfold marks
  rw [List.set_append_right _ _ (by simp)]
  simp only [List.length_replicate, Nat.sub_self]
  rw [show n - k = (n - (k + 1)) + 1 by omega, List.replicate_succ, List.set_cons_zero, List.replicate_succ' (n := k), List.append_assoc]
  rfl
end Go.Proofs.Ytfbfhlolnooipaa
