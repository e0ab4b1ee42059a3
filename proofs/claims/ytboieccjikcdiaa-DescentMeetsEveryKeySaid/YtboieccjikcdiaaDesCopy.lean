/-
  What node's copied answers: the page with a row of slots of its own. Condition: rows of at most 2^40 slots.
-/
import Derived.Test.YtboieccjikcdiaaPagMem
import Derived.Test.YtboieccjikcdiaaDesTake
namespace Go.Proofs.Ytboieccjikcdiaa
open Go.RowKit Go.Deep Plain
set_option linter.unusedVariables false

set_option maxHeartbeats 2000000 in
theorem copied_any (lv : Nat) (A : Option Addr) (c : Nat) (hi : ByteArray) (la : Bool) (rt : Nat) (xs : List Sl) (w : World) (n : Nat) (hn : xs.length = n) (h40 : n ≤ 1099511627776) (hR : Rs w A c xs) :
    Calls Try.prog 76 #[.agg #[.int .i64 (lv : Int), .slice A n c, .string hi, .bool la, .int .u64 (rt : Int)]] w fun e w' => ∃ A' c', e = .returned (.agg #[.int .i64 (lv : Int), .slice A' n c', .string hi, .bool la, .int .u64 (rt : Int)]) ∧ w'.ownsRow w.heap.size 65 2 (.slice A' n c') n (flat xs) ∧ Below w.heap.size w w' := by
  obtain ⟨P0, S0, B0, Z0⟩ := box_two w [.int .i64 (lv : Int), .slice A n c, .string hi, .bool la, .int .u64 (rt : Int)] [.int .i64 0, .slice none 0 0, .string ⟨#[]⟩, .bool false, .int .u64 0] 43 43
  have R0 := hR.below B0 (Nat.le_refl _)
  go_enter Try.func76, Try.ntmps76
  go_wp2_with (at_builtin; go_must (refine wpList_app rfl (.const (.slice none 0 0)) (.tmp 4) rfl (w.heap.size + 2) _ 0 [] rfl (World.ownsRow_nil _ _ _ _) A n c xs rfl hn R0 (by omega) (Nat.le_of_eq Z0.symm) ?_))
  intro v1 w1 hown hB

  have P1 := P0.below hB (by omega)
  have S1 := S0.below hB (by omega)
  have HB := Lib.hid (B0.trans (hB.mono (by omega)))
  have HO := Lib.hid hown
  have x0 := P1.cell (i := 0) rfl
  have y0 := S1.cell (i := 0) rfl
  have z0 := S1.frozen 0
  have x1 := P1.cell (i := 1) rfl
  have y1 := S1.cell (i := 1) rfl
  have z1 := S1.frozen 1
  have x2 := P1.cell (i := 2) rfl
  have y2 := S1.cell (i := 2) rfl
  have z2 := S1.frozen 2
  have x3 := P1.cell (i := 3) rfl
  have y3 := S1.cell (i := 3) rfl
  have z3 := S1.frozen 3
  have x4 := P1.cell (i := 4) rfl
  have y4 := S1.cell (i := 4) rfl
  have z4 := S1.frozen 4
  have f1 := P1.frozen 1
  obtain ⟨A4, c4, rfl, hl4, hR4, hA4⟩ := Rs.own hown
  clear hown hB P0 S0 B0 Z0 P1 S1 R0 hR hl4 hR4 hA4
  go_wp2
  refine bodyPost_ret (v := .agg #[.int .i64 (lv : Int), .slice A4 n c4, .string hi, .bool la, .int .u64 (rt : Int)]) (by simp [results, Try.results76, go_sem, *]) rfl ?_
  exact ⟨_, _, rfl, own_less (own_page HO.out (by omega) (by omega) _ _ _ _ _ _) (by omega), below_page HB.out (Nat.le_refl _) (Nat.le_succ _) _ _ _ _ _ _⟩

end Go.Proofs.Ytboieccjikcdiaa
