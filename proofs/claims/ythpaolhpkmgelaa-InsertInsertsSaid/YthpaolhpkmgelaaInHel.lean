/-
  Held of a Fresh that has finished. Condition: none.
-/
import Derived.Test.YthpaolhpkmgelaaLkNew
namespace Go.Proofs.Ythpaolhpkmgelaa
section
open Go.RowKit Go.Deep Plain
set_option linter.unusedVariables false

set_option maxHeartbeats 1000000 in
set_option maxHeartbeats 2000000 in
theorem fheld_any (Z : Nat → Prop) (q : Nat) (ss : List Sto) (j nid wd : Nat) (P : Pg) (w : World) (h : Stm Z w q 112 ss j nid wd P) (hj : j = ss.length) (h40 : P.xs.length ≤ 1099511627776) :
    Calls Try.prog 45 #[.pointer (some ⟨q, 0, none⟩)] w fun e w' => ∃ A c, e = .returned (.agg #[.int .u64 (nid : Int), .int .u64 (wd : Int), .int .i64 (P.lv : Int), .slice A P.xs.length c, .string P.hi, .bool P.la, .int .u64 (P.rt : Int)]) ∧ Rs w' A c P.xs ∧ (∀ a, A = some a → w.heap.size ≤ a.block) ∧ Kept (fun _ => False) w w' := by
  have hzb : ∀ i, Z i → i < w.heap.size := h.lt
  obtain ⟨S0, B0, Z0⟩ := box_one w [.int .u64 0, .int .u64 0, .int .i64 0, .slice none 0 0, .string ⟨#[]⟩, .bool false, .int .u64 0] 33
  have hk0 := (Kept.refl (fun _ => False) w).alloc (.cells #[.int .u64 0, .int .u64 0, .int .i64 0, .slice none 0 0, .string ⟨#[]⟩, .bool false, .int .u64 0] 33)
  have HH := Lib.hid (h.kept hk0 (fun _ _ h => h))
  have HS := Lib.hid S0
  have HK := Lib.hid hk0
  clear h S0 B0 hk0
  go_enter Try.func45, Try.ntmps45
  go_wp2_with fail
  generalize w.alloc (.cells #[.int .u64 0, .int .u64 0, .int .i64 0, .slice none 0 0, .string ⟨#[]⟩, .bool false, .int .u64 0] 33) = W at *
  refine (result_any Z q 112 ss j nid wd P _ HH.out hj h40).mono ?_; rintro e w1 ⟨A, c, rfl, hR, hA, hK⟩
  have hS1 := hK.blk HS.out (fun h => h)
  have HK1 := Lib.hid (HK.out.trans hK (fun _ _ h => h))
  have v0 := hS1.cell (i := 0) rfl
  have zv0 := hS1.frozen 0
  have v1 := hS1.cell (i := 1) rfl
  have zv1 := hS1.frozen 1
  have v2 := hS1.cell (i := 2) rfl
  have zv2 := hS1.frozen 2
  have v3 := hS1.cell (i := 3) rfl
  have zv3 := hS1.frozen 3
  have v4 := hS1.cell (i := 4) rfl
  have zv4 := hS1.frozen 4
  have v5 := hS1.cell (i := 5) rfl
  have zv5 := hS1.frozen 5
  have v6 := hS1.cell (i := 6) rfl
  have zv6 := hS1.frozen 6
  have HR := Lib.hid hR
  have HA := Lib.hid hA
  clear hR hA hK hS1 HS HK HH
  go_wp2
  refine bodyPost_ret (v := .agg #[.int .u64 (nid : Int), .int .u64 (wd : Int), .int .i64 (P.lv : Int), .slice A P.xs.length c, .string P.hi, .bool P.la, .int .u64 (P.rt : Int)]) (by first | (simp [results, Try.results45, go_sem]; done) | (simp [results, Try.results45, go_sem, *]; done)) rfl ?_
  exact ⟨_, _, rfl, HR.out.keptF ((((((((Kept.refl (fun i => i = w.heap.size) w1).setCell (a := ⟨w.heap.size, 0, none⟩) (fun _ => rfl) (.int .u64 (nid : Int))).setCell (a := ⟨w.heap.size, 1, none⟩) (fun _ => rfl) (.int .u64 (wd : Int))).setCell (a := ⟨w.heap.size, 2, none⟩) (fun _ => rfl) (.int .i64 (P.lv : Int))).setCell (a := ⟨w.heap.size, 3, none⟩) (fun _ => rfl) (.slice A P.xs.length c)).setCell (a := ⟨w.heap.size, 4, none⟩) (fun _ => rfl) (.string P.hi)).setCell (a := ⟨w.heap.size, 5, none⟩) (fun _ => rfl) (.bool P.la)).setCell (a := ⟨w.heap.size, 6, none⟩) (fun _ => rfl) (.int .u64 (P.rt : Int))) (fun a ha e => by have := HA.out a ha; omega), fun a ha => by have := HA.out a ha; omega, (((((((HK1.out.setNew (b := w.heap.size) (Nat.le_refl _) 0 (.int .u64 (nid : Int))).setNew (b := w.heap.size) (Nat.le_refl _) 1 (.int .u64 (wd : Int))).setNew (b := w.heap.size) (Nat.le_refl _) 2 (.int .i64 (P.lv : Int))).setNew (b := w.heap.size) (Nat.le_refl _) 3 (.slice A P.xs.length c)).setNew (b := w.heap.size) (Nat.le_refl _) 4 (.string P.hi)).setNew (b := w.heap.size) (Nat.le_refl _) 5 (.bool P.la)).setNew (b := w.heap.size) (Nat.le_refl _) 6 (.int .u64 (P.rt : Int)))⟩
end
end Go.Proofs.Ythpaolhpkmgelaa
