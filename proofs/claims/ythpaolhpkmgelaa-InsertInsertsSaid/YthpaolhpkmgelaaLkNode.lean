/-
  How the machines of package node take a node's cells. Condition: a layout within its limits.
-/
import Derived.Test.YthpaolhpkmgelaaLkLay
import Derived.Test.YthpaolhpkmgelaaLkPlain
import Derived.Test.YthpaolhpkmgelaaLkPag
import Derived.Deep.AppendLies
namespace Go.Proofs.Ythpaolhpkmgelaa
section
open Go.RowKit Go.Deep Plain
set_option linter.unusedVariables false

/-- The cells of a content: its layout, its node, how many cells have been read and how many there are, the page as far as it has been read; and what lies behind it. -/
def conv (T S N C R : Int) (F : Nat) (K fa fb fd : Int) (nid rd en lv : Nat) (v : Value) (hi : ByteArray) (la : Bool) (rt : Nat) (tl : List Value) : List Value :=
  .int .i64 T :: .int .i64 S :: .int .i64 N :: .int .i64 C :: .int .i64 R :: .int .i64 (F : Int) :: .int .u64 K :: .int .i64 fa :: .int .i64 fb :: .int .i64 fd :: .int .u64 (nid : Int) :: .int .i64 (rd : Int) :: .int .i64 (en : Int) :: .int .i64 (lv : Int) :: v :: .string hi :: .bool la :: .int .u64 (rt : Int) :: tl

end

section
open Go.RowKit Go.Deep Plain
set_option linter.unusedVariables false

theorem own_kept {S : Nat → Prop} {w w' : World} {base : Nat} {e : TypeId} {size : Nat} {v : Value} {n : Nat} {xs : List Value} (h : w.ownsRow base e size v n xs) (hk : Kept S w w') (hs : ∀ i, v.ownBlock = some i → ¬ S i) : w'.ownsRow base e size v n xs := by
  refine ⟨h.1, ?_⟩
  rcases h.2 with hn | ⟨g, cap, cur, rfl, hb, hg, rest⟩
  · exact .inl hn
  · exact .inr ⟨g, cap, cur, rfl, hb, (hk.block g (Array.getElem?_eq_some_iff.1 hg).1 (hs g rfl)).trans hg, rest⟩
/-- A row is no block of another type. -/
theorem own_far {w : World} {base : Nat} {e t : TypeId} {size : Nat} {v : Value} {n q : Nat} {xs ys : List Value} (h : w.ownsRow base e size v n xs) (hq : Blk w q t ys) (ht : t ≠ e) : v.ownBlock ≠ some q := by
  rcases h.2 with ⟨rfl, _⟩ | ⟨g, cap, cur, rfl, _, hg, _⟩
  · intro e; cases e
  · intro e
    cases e
    unfold Blk at hq
    rw [hg] at hq
    cases hq
    exact ht rfl
theorem one_slot (k : ByteArray) (r : Int) : ∀ u ∈ [Value.string k, .int .u64 r], u.oneCell' = true := by intro u hu; simp at hu; rcases hu with rfl | rfl <;> rfl
theorem wrap_i (n : Int) (h : -9223372036854775808 ≤ n ∧ n < 9223372036854775808) : IntKind.i64.wrap n = n := by rw [IntKind.wrap_i64]; omega
theorem wrap_u (n : Int) (h : 0 ≤ n ∧ n < 18446744073709551616) : IntKind.u64.wrap n = n := by rw [IntKind.wrap_u64]; omega
theorem fieldF (T S N C R F K : Int) (w : World) : (Instr.field 25 (.agg #[.int .i64 T, .int .i64 S, .int .i64 N, .int .i64 C, .int .i64 R, .int .i64 F, .int .u64 K]) 5).run Try.prog w = .ok (.int .i64 F) w := by kernel_rfl

end

section
open Go.RowKit Go.Deep Plain
set_option linter.unusedVariables false

/-- A content at the head of block q, with the row of the slots that it has read; both belong to the blocks Z, which are its machine's own. -/
structure Con (Z : Nat → Prop) (w : World) (T S N C R : Int) (F : Nat) (K fa fb fd : Int) (q : Nat) (t : TypeId) (nid : Nat) (s : Cs) (tl : List Value) : Prop where
  lt : ∀ i, Z i → i < w.heap.size
  own : Z q
  ex : ∃ v, Blk w q t (conv T S N C R F K fa fb fd nid s.rd s.en s.lv v s.hi s.la s.rt tl) ∧ w.ownsRow 0 70 2 v s.xs.length (flat s.xs) ∧ ∀ i, v.ownBlock = some i → Z i
section
variable {Z Y : Nat → Prop} {w w' : World} {T S N C R : Int} {F : Nat} {K fa fb fd : Int} {q : Nat} {t : TypeId} {nid : Nat} {s : Cs} {tl : List Value}
theorem Con.kept (h : Con Z w T S N C R F K fa fb fd q t nid s tl) (hk : Kept Y w w') (hd : ∀ i, Z i → ¬ Y i) : Con Z w' T S N C R F K fa fb fd q t nid s tl :=
  let ⟨v, h1, h2, h3⟩ := h.ex
  ⟨fun i hi => Nat.lt_of_lt_of_le (h.lt i hi) hk.size, h.own, v, hk.blk h1 (hd q h.own), own_kept h2 hk (fun i hi => hd i (h3 i hi)), h3⟩
/-- What lies behind the content may be written. -/
theorem Con.setTail (h : Con Z w T S N C R F K fa fb fd q t nid s tl) (ht : t ≠ 70) (i : Nat) (u : Value) : Con Z (w.setCell ⟨q, 18 + i, none⟩ u) T S N C R F K fa fb fd q t nid s (tl.set i u) := by
  obtain ⟨v, h1, h2, h3⟩ := h.ex
  have hk := (Kept.refl (fun i => i = q) w).setCell (a := ⟨q, 18 + i, none⟩) (fun _ => rfl) u
  refine ⟨fun j hj => Nat.lt_of_lt_of_le (h.lt j hj) hk.size, h.own, v, ?_, own_kept h2 hk (fun j hj e => own_far h2 h1 ht (by rw [hj, e])), h3⟩
  have e : (conv T S N C R F K fa fb fd nid s.rd s.en s.lv v s.hi s.la s.rt tl).set (18 + i) u = (conv T S N C R F K fa fb fd nid s.rd s.en s.lv v s.hi s.la s.rt (tl.set i u)) := by
    rw [Nat.add_comm]; rfl
  rw [← e]; exact h1.set _ _
end

end

section
open Go.RowKit Go.Deep Plain
set_option linter.unusedVariables false

set_option maxHeartbeats 2000000 in
theorem copied_any (lv : Nat) (A : Option Addr) (c : Nat) (hi : ByteArray) (la : Bool) (rt : Nat) (xs : List Sl) (w : World) (n : Nat) (hn : xs.length = n) (h40 : n ≤ 1099511627776) (hR : Rs w A c xs) :
    Calls Try.prog 76 #[.agg #[.int .i64 (lv : Int), .slice A n c, .string hi, .bool la, .int .u64 (rt : Int)]] w fun e w' => ∃ A' c', e = .returned (.agg #[.int .i64 (lv : Int), .slice A' n c', .string hi, .bool la, .int .u64 (rt : Int)]) ∧ w'.ownsRow w.heap.size 70 2 (.slice A' n c') n (flat xs) ∧ Below w.heap.size w w' := by
  obtain ⟨P0, S0, B0, Z0⟩ := box_two w [.int .i64 (lv : Int), .slice A n c, .string hi, .bool la, .int .u64 (rt : Int)] [.int .i64 0, .slice none 0 0, .string ⟨#[]⟩, .bool false, .int .u64 0] 31 31
  have R0 := hR.below B0 (Nat.le_refl _)
  go_enter Try.func76, Try.ntmps76
  go_wp2_with (at_builtin; go_must (refine wpList_app rfl (.const (.slice none 0 0)) (.tmp 4) rfl (w.heap.size + 2) _ 0 [] rfl (World.ownsRow_nil _ _ _ _) A n c xs rfl hn R0 (by omega) (Nat.le_of_eq Z0.symm) ?_))
  intro v1 w1 hown hB

  have P1 := P0.below hB (by omega)
  have S1 := S0.below hB (by omega)
  have HB := Lib.hid (B0.trans (hB.mono (by omega)))
  have HO := Lib.hid hown
  have x0 := P1.cell (i := 0) rfl
  have y0 := S1.cell (i := 0) rfl
  have z0 := S1.frozen 0
  have x1 := P1.cell (i := 1) rfl
  have y1 := S1.cell (i := 1) rfl
  have z1 := S1.frozen 1
  have x2 := P1.cell (i := 2) rfl
  have y2 := S1.cell (i := 2) rfl
  have z2 := S1.frozen 2
  have x3 := P1.cell (i := 3) rfl
  have y3 := S1.cell (i := 3) rfl
  have z3 := S1.frozen 3
  have x4 := P1.cell (i := 4) rfl
  have y4 := S1.cell (i := 4) rfl
  have z4 := S1.frozen 4
  have f1 := P1.frozen 1
  obtain ⟨A4, c4, rfl, hl4, hR4, hA4⟩ := Rs.own hown
  clear hown hB P0 S0 B0 Z0 P1 S1 R0 hR hl4 hR4 hA4
  go_wp2
  refine bodyPost_ret (v := .agg #[.int .i64 (lv : Int), .slice A4 n c4, .string hi, .bool la, .int .u64 (rt : Int)]) (by simp [results, Try.results76, go_sem, *]) rfl ?_
  exact ⟨_, _, rfl, own_less (own_page HO.out (by omega) (by omega) _ _ _ _ _ _) (by omega), below_page HB.out (Nat.le_refl _) (Nat.le_succ _) _ _ _ _ _ _⟩
end
end Go.Proofs.Ythpaolhpkmgelaa
