/-
  What the law's own content answers: a page with at most as many slots as the fanout. Condition: none beside the sizes.
-/
import Derived.Test.YtlehpcbhfdnkdaaNodAds
namespace Go.Proofs.Ytlehpcbhfdnkdaa
open Go.RowKit Go.Deep Plain
set_option linter.unusedVariables false

set_option maxHeartbeats 2000000 in
theorem content_true_n (F : Nat) (plv : Int) (A : Option Addr) (c : Nat) (hi : ByteArray) (rt : Nat) (xs : List Sl) (lvl : Nat) (w : World) (n : Nat) (hn : xs.length = n) (hF : F ≤ 1000) (hle : n ≤ F) (hR : Rs w A c xs) :
    Calls Try.prog 11 #[.agg #[.int .i64 1, .int .i64 2, .int .i64 100, .int .i64 100, .int .i64 200, .int .i64 (F : Int), .int .u64 1000], .agg #[.int .i64 plv, .slice A n c, .string hi, .bool true, .int .u64 (rt : Int)], .int .i64 (lvl : Int)] w fun e w' => ∃ A5 c5, e = .returned (.agg #[.int .i64 (lvl : Int), .slice A5 n c5, .string ⟨#[]⟩, .bool true, .int .u64 (rt : Int)]) ∧ Rs w' A5 c5 (xs.take n) ∧ (∀ a, A5 = some a → w.heap.size ≤ a.block) ∧ Kept (fun _ => False) w w' := by
  have hP0 : Blk (((w.alloc (.cells #[.int .i64 1, .int .i64 2, .int .i64 100, .int .i64 100, .int .i64 200, .int .i64 (F : Int), .int .u64 1000] 27)).alloc (.cells #[.int .i64 plv, .slice A n c, .string hi, .bool true, .int .u64 (rt : Int)] 25)).alloc (.cells #[.int .i64 0, .slice none 0 0, .string ⟨#[]⟩, .bool false, .int .u64 0] 25)) (w.heap.size + 1) 25 [.int .i64 plv, .slice A n c, .string hi, .bool true, .int .u64 (rt : Int)] := by have := (Blk.new (w.alloc (.cells #[.int .i64 1, .int .i64 2, .int .i64 100, .int .i64 100, .int .i64 200, .int .i64 (F : Int), .int .u64 1000] 27)) [.int .i64 plv, .slice A n c, .string hi, .bool true, .int .u64 (rt : Int)] 25).alloc (.cells #[.int .i64 0, .slice none 0 0, .string ⟨#[]⟩, .bool false, .int .u64 0] 25); rw [nblk_alloc] at this; exact this
  have hR0 : Blk (((w.alloc (.cells #[.int .i64 1, .int .i64 2, .int .i64 100, .int .i64 100, .int .i64 200, .int .i64 (F : Int), .int .u64 1000] 27)).alloc (.cells #[.int .i64 plv, .slice A n c, .string hi, .bool true, .int .u64 (rt : Int)] 25)).alloc (.cells #[.int .i64 0, .slice none 0 0, .string ⟨#[]⟩, .bool false, .int .u64 0] 25)) (w.heap.size + 1 + 1) 25 [.int .i64 0, .slice none 0 0, .string ⟨#[]⟩, .bool false, .int .u64 0] := by have := Blk.new ((w.alloc (.cells #[.int .i64 1, .int .i64 2, .int .i64 100, .int .i64 100, .int .i64 200, .int .i64 (F : Int), .int .u64 1000] 27)).alloc (.cells #[.int .i64 plv, .slice A n c, .string hi, .bool true, .int .u64 (rt : Int)] 25)) [.int .i64 0, .slice none 0 0, .string ⟨#[]⟩, .bool false, .int .u64 0] 25; rw [nblk_alloc, nblk_alloc] at this; exact this
  have hB0 : Below w.heap.size w (((w.alloc (.cells #[.int .i64 1, .int .i64 2, .int .i64 100, .int .i64 100, .int .i64 200, .int .i64 (F : Int), .int .u64 1000] 27)).alloc (.cells #[.int .i64 plv, .slice A n c, .string hi, .bool true, .int .u64 (rt : Int)] 25)).alloc (.cells #[.int .i64 0, .slice none 0 0, .string ⟨#[]⟩, .bool false, .int .u64 0] 25)) := (((Below.refl w.heap.size w).alloc (Nat.le_refl _) _).alloc (by rw [nblk_alloc]; omega) _).alloc (by rw [nblk_alloc, nblk_alloc]; omega) _
  have hz0 : (((w.alloc (.cells #[.int .i64 1, .int .i64 2, .int .i64 100, .int .i64 100, .int .i64 200, .int .i64 (F : Int), .int .u64 1000] 27)).alloc (.cells #[.int .i64 plv, .slice A n c, .string hi, .bool true, .int .u64 (rt : Int)] 25)).alloc (.cells #[.int .i64 0, .slice none 0 0, .string ⟨#[]⟩, .bool false, .int .u64 0] 25)).heap.size = w.heap.size + 3 := by rw [nblk_alloc, nblk_alloc, nblk_alloc]
  have hcap := hR.le
  have hmc : n ≤ c := by omega
  have hmi : (n : Int) ≤ (c : Int) := by omega
  have HR := Lib.hid (hR.below hB0 (Nat.le_refl _))
  have HP := Lib.hid hP0
  have HQ := Lib.hid hR0
  have HB := Lib.hid hB0
  have HZ := Lib.hid hz0
  clear hP0 hR0 hB0 hR hcap hz0
  go_enter Try.func11, Try.ntmps11
  go_wp2_with (at_builtin; go_must (refine wpList_app rfl (.const (.slice none 0 0)) (.tmp 15) rfl (w.heap.size + 3) _ 0 [] rfl (World.ownsRow_nil _ _ _ _) A n c (xs.take n) rfl (by rw [List.length_take]; omega) (HR.out.take n) (by omega) (Nat.le_of_eq HZ.out.symm) ?_))
  intro v1 w1 hown hB1
  obtain ⟨A5, c5, rfl, hl5, hR5, hA5⟩ := Rs.own hown
  have hP1 := HP.out.below hB1 (by omega)
  have hQ1 := HQ.out.below hB1 (by omega)
  have HB1 := Lib.hid (HB.out.trans (hB1.mono (by omega)))
  have HR5 := Lib.hid hR5
  have HA5 := Lib.hid hA5
  have y0 := hP1.cell (i := 0) rfl
  have zy0 := hP1.frozen 0
  have v0 := hQ1.cell (i := 0) rfl
  have zv0 := hQ1.frozen 0
  have y1 := hP1.cell (i := 1) rfl
  have zy1 := hP1.frozen 1
  have v1 := hQ1.cell (i := 1) rfl
  have zv1 := hQ1.frozen 1
  have y2 := hP1.cell (i := 2) rfl
  have zy2 := hP1.frozen 2
  have v2 := hQ1.cell (i := 2) rfl
  have zv2 := hQ1.frozen 2
  have y3 := hP1.cell (i := 3) rfl
  have zy3 := hP1.frozen 3
  have v3 := hQ1.cell (i := 3) rfl
  have zv3 := hQ1.frozen 3
  have y4 := hP1.cell (i := 4) rfl
  have zy4 := hP1.frozen 4
  have v4 := hQ1.cell (i := 4) rfl
  have zv4 := hQ1.frozen 4
  clear hown hB1 hl5 hR5 hA5 hP1 hQ1 HR HP HQ HB HZ
  go_wp2
  refine bodyPost_ret (v := .agg #[.int .i64 (lvl : Int), .slice A5 n c5, .string ⟨#[]⟩, .bool true, .int .u64 (rt : Int)]) (by first | (simp [results, Try.results11, go_sem]; done) | (simp [results, Try.results11, go_sem, *]; done)) rfl ?_
  exact ⟨A5, c5, rfl, HR5.out.keptF (((((((((Kept.refl (fun i => i = w.heap.size + 1 ∨ i = w.heap.size + 1 + 1) w1).setCell (a := ⟨w.heap.size + 1, 1, none⟩) (fun _ => .inl rfl) (.slice A5 n c5)).setCell (a := ⟨w.heap.size + 1, 0, none⟩) (fun _ => .inl rfl) (.int .i64 (lvl : Int))).setCell (a := ⟨w.heap.size + 1, 2, none⟩) (fun _ => .inl rfl) (.string ⟨#[]⟩)).setCell (a := ⟨w.heap.size + 1 + 1, 0, none⟩) (fun _ => .inr rfl) (.int .i64 (lvl : Int))).setCell (a := ⟨w.heap.size + 1 + 1, 1, none⟩) (fun _ => .inr rfl) (.slice A5 n c5)).setCell (a := ⟨w.heap.size + 1 + 1, 2, none⟩) (fun _ => .inr rfl) (.string ⟨#[]⟩)).setCell (a := ⟨w.heap.size + 1 + 1, 3, none⟩) (fun _ => .inr rfl) (.bool true)).setCell (a := ⟨w.heap.size + 1 + 1, 4, none⟩) (fun _ => .inr rfl) (.int .u64 (rt : Int))) (fun a ha e => by have := HA5.out a ha; rcases e with e | e <;> omega), fun a ha => by have := HA5.out a ha; omega, ((((((((HB1.out.setCell (p := ⟨w.heap.size + 1, 1, none⟩) (show w.heap.size ≤ w.heap.size + 1 by omega) (.slice A5 n c5)).setCell (p := ⟨w.heap.size + 1, 0, none⟩) (show w.heap.size ≤ w.heap.size + 1 by omega) (.int .i64 (lvl : Int))).setCell (p := ⟨w.heap.size + 1, 2, none⟩) (show w.heap.size ≤ w.heap.size + 1 by omega) (.string ⟨#[]⟩)).setCell (p := ⟨w.heap.size + 1 + 1, 0, none⟩) (show w.heap.size ≤ w.heap.size + 1 + 1 by omega) (.int .i64 (lvl : Int))).setCell (p := ⟨w.heap.size + 1 + 1, 1, none⟩) (show w.heap.size ≤ w.heap.size + 1 + 1 by omega) (.slice A5 n c5)).setCell (p := ⟨w.heap.size + 1 + 1, 2, none⟩) (show w.heap.size ≤ w.heap.size + 1 + 1 by omega) (.string ⟨#[]⟩)).setCell (p := ⟨w.heap.size + 1 + 1, 3, none⟩) (show w.heap.size ≤ w.heap.size + 1 + 1 by omega) (.bool true)).setCell (p := ⟨w.heap.size + 1 + 1, 4, none⟩) (show w.heap.size ≤ w.heap.size + 1 + 1 by omega) (.int .u64 (rt : Int))).kept0⟩

set_option maxHeartbeats 2000000 in
theorem content_true_F (F : Nat) (plv : Int) (A : Option Addr) (c : Nat) (hi : ByteArray) (rt : Nat) (xs : List Sl) (lvl : Nat) (w : World) (n : Nat) (hn : xs.length = n) (hF : F ≤ 1000) (hle : F < n) (hR : Rs w A c xs) :
    Calls Try.prog 11 #[.agg #[.int .i64 1, .int .i64 2, .int .i64 100, .int .i64 100, .int .i64 200, .int .i64 (F : Int), .int .u64 1000], .agg #[.int .i64 plv, .slice A n c, .string hi, .bool true, .int .u64 (rt : Int)], .int .i64 (lvl : Int)] w fun e w' => ∃ A5 c5, e = .returned (.agg #[.int .i64 (lvl : Int), .slice A5 F c5, .string ⟨#[]⟩, .bool true, .int .u64 (rt : Int)]) ∧ Rs w' A5 c5 (xs.take F) ∧ (∀ a, A5 = some a → w.heap.size ≤ a.block) ∧ Kept (fun _ => False) w w' := by
  have hP0 : Blk (((w.alloc (.cells #[.int .i64 1, .int .i64 2, .int .i64 100, .int .i64 100, .int .i64 200, .int .i64 (F : Int), .int .u64 1000] 27)).alloc (.cells #[.int .i64 plv, .slice A n c, .string hi, .bool true, .int .u64 (rt : Int)] 25)).alloc (.cells #[.int .i64 0, .slice none 0 0, .string ⟨#[]⟩, .bool false, .int .u64 0] 25)) (w.heap.size + 1) 25 [.int .i64 plv, .slice A n c, .string hi, .bool true, .int .u64 (rt : Int)] := by have := (Blk.new (w.alloc (.cells #[.int .i64 1, .int .i64 2, .int .i64 100, .int .i64 100, .int .i64 200, .int .i64 (F : Int), .int .u64 1000] 27)) [.int .i64 plv, .slice A n c, .string hi, .bool true, .int .u64 (rt : Int)] 25).alloc (.cells #[.int .i64 0, .slice none 0 0, .string ⟨#[]⟩, .bool false, .int .u64 0] 25); rw [nblk_alloc] at this; exact this
  have hR0 : Blk (((w.alloc (.cells #[.int .i64 1, .int .i64 2, .int .i64 100, .int .i64 100, .int .i64 200, .int .i64 (F : Int), .int .u64 1000] 27)).alloc (.cells #[.int .i64 plv, .slice A n c, .string hi, .bool true, .int .u64 (rt : Int)] 25)).alloc (.cells #[.int .i64 0, .slice none 0 0, .string ⟨#[]⟩, .bool false, .int .u64 0] 25)) (w.heap.size + 1 + 1) 25 [.int .i64 0, .slice none 0 0, .string ⟨#[]⟩, .bool false, .int .u64 0] := by have := Blk.new ((w.alloc (.cells #[.int .i64 1, .int .i64 2, .int .i64 100, .int .i64 100, .int .i64 200, .int .i64 (F : Int), .int .u64 1000] 27)).alloc (.cells #[.int .i64 plv, .slice A n c, .string hi, .bool true, .int .u64 (rt : Int)] 25)) [.int .i64 0, .slice none 0 0, .string ⟨#[]⟩, .bool false, .int .u64 0] 25; rw [nblk_alloc, nblk_alloc] at this; exact this
  have hB0 : Below w.heap.size w (((w.alloc (.cells #[.int .i64 1, .int .i64 2, .int .i64 100, .int .i64 100, .int .i64 200, .int .i64 (F : Int), .int .u64 1000] 27)).alloc (.cells #[.int .i64 plv, .slice A n c, .string hi, .bool true, .int .u64 (rt : Int)] 25)).alloc (.cells #[.int .i64 0, .slice none 0 0, .string ⟨#[]⟩, .bool false, .int .u64 0] 25)) := (((Below.refl w.heap.size w).alloc (Nat.le_refl _) _).alloc (by rw [nblk_alloc]; omega) _).alloc (by rw [nblk_alloc, nblk_alloc]; omega) _
  have hz0 : (((w.alloc (.cells #[.int .i64 1, .int .i64 2, .int .i64 100, .int .i64 100, .int .i64 200, .int .i64 (F : Int), .int .u64 1000] 27)).alloc (.cells #[.int .i64 plv, .slice A n c, .string hi, .bool true, .int .u64 (rt : Int)] 25)).alloc (.cells #[.int .i64 0, .slice none 0 0, .string ⟨#[]⟩, .bool false, .int .u64 0] 25)).heap.size = w.heap.size + 3 := by rw [nblk_alloc, nblk_alloc, nblk_alloc]
  have hcap := hR.le
  have hmc : F ≤ c := by omega
  have hmi : (F : Int) ≤ (c : Int) := by omega
  have HR := Lib.hid (hR.below hB0 (Nat.le_refl _))
  have HP := Lib.hid hP0
  have HQ := Lib.hid hR0
  have HB := Lib.hid hB0
  have HZ := Lib.hid hz0
  clear hP0 hR0 hB0 hR hcap hz0
  go_enter Try.func11, Try.ntmps11
  go_wp2_with (at_builtin; go_must (refine wpList_app rfl (.const (.slice none 0 0)) (.tmp 15) rfl (w.heap.size + 3) _ 0 [] rfl (World.ownsRow_nil _ _ _ _) A F c (xs.take F) rfl (by rw [List.length_take]; omega) (HR.out.take F) (by omega) (Nat.le_of_eq HZ.out.symm) ?_))
  intro v1 w1 hown hB1
  obtain ⟨A5, c5, rfl, hl5, hR5, hA5⟩ := Rs.own hown
  have hP1 := HP.out.below hB1 (by omega)
  have hQ1 := HQ.out.below hB1 (by omega)
  have HB1 := Lib.hid (HB.out.trans (hB1.mono (by omega)))
  have HR5 := Lib.hid hR5
  have HA5 := Lib.hid hA5
  have y0 := hP1.cell (i := 0) rfl
  have zy0 := hP1.frozen 0
  have v0 := hQ1.cell (i := 0) rfl
  have zv0 := hQ1.frozen 0
  have y1 := hP1.cell (i := 1) rfl
  have zy1 := hP1.frozen 1
  have v1 := hQ1.cell (i := 1) rfl
  have zv1 := hQ1.frozen 1
  have y2 := hP1.cell (i := 2) rfl
  have zy2 := hP1.frozen 2
  have v2 := hQ1.cell (i := 2) rfl
  have zv2 := hQ1.frozen 2
  have y3 := hP1.cell (i := 3) rfl
  have zy3 := hP1.frozen 3
  have v3 := hQ1.cell (i := 3) rfl
  have zv3 := hQ1.frozen 3
  have y4 := hP1.cell (i := 4) rfl
  have zy4 := hP1.frozen 4
  have v4 := hQ1.cell (i := 4) rfl
  have zv4 := hQ1.frozen 4
  clear hown hB1 hl5 hR5 hA5 hP1 hQ1 HR HP HQ HB HZ
  go_wp2
  refine bodyPost_ret (v := .agg #[.int .i64 (lvl : Int), .slice A5 F c5, .string ⟨#[]⟩, .bool true, .int .u64 (rt : Int)]) (by first | (simp [results, Try.results11, go_sem]; done) | (simp [results, Try.results11, go_sem, *]; done)) rfl ?_
  exact ⟨A5, c5, rfl, HR5.out.keptF (((((((((Kept.refl (fun i => i = w.heap.size + 1 ∨ i = w.heap.size + 1 + 1) w1).setCell (a := ⟨w.heap.size + 1, 1, none⟩) (fun _ => .inl rfl) (.slice A5 F c5)).setCell (a := ⟨w.heap.size + 1, 0, none⟩) (fun _ => .inl rfl) (.int .i64 (lvl : Int))).setCell (a := ⟨w.heap.size + 1, 2, none⟩) (fun _ => .inl rfl) (.string ⟨#[]⟩)).setCell (a := ⟨w.heap.size + 1 + 1, 0, none⟩) (fun _ => .inr rfl) (.int .i64 (lvl : Int))).setCell (a := ⟨w.heap.size + 1 + 1, 1, none⟩) (fun _ => .inr rfl) (.slice A5 F c5)).setCell (a := ⟨w.heap.size + 1 + 1, 2, none⟩) (fun _ => .inr rfl) (.string ⟨#[]⟩)).setCell (a := ⟨w.heap.size + 1 + 1, 3, none⟩) (fun _ => .inr rfl) (.bool true)).setCell (a := ⟨w.heap.size + 1 + 1, 4, none⟩) (fun _ => .inr rfl) (.int .u64 (rt : Int))) (fun a ha e => by have := HA5.out a ha; rcases e with e | e <;> omega), fun a ha => by have := HA5.out a ha; omega, ((((((((HB1.out.setCell (p := ⟨w.heap.size + 1, 1, none⟩) (show w.heap.size ≤ w.heap.size + 1 by omega) (.slice A5 F c5)).setCell (p := ⟨w.heap.size + 1, 0, none⟩) (show w.heap.size ≤ w.heap.size + 1 by omega) (.int .i64 (lvl : Int))).setCell (p := ⟨w.heap.size + 1, 2, none⟩) (show w.heap.size ≤ w.heap.size + 1 by omega) (.string ⟨#[]⟩)).setCell (p := ⟨w.heap.size + 1 + 1, 0, none⟩) (show w.heap.size ≤ w.heap.size + 1 + 1 by omega) (.int .i64 (lvl : Int))).setCell (p := ⟨w.heap.size + 1 + 1, 1, none⟩) (show w.heap.size ≤ w.heap.size + 1 + 1 by omega) (.slice A5 F c5)).setCell (p := ⟨w.heap.size + 1 + 1, 2, none⟩) (show w.heap.size ≤ w.heap.size + 1 + 1 by omega) (.string ⟨#[]⟩)).setCell (p := ⟨w.heap.size + 1 + 1, 3, none⟩) (show w.heap.size ≤ w.heap.size + 1 + 1 by omega) (.bool true)).setCell (p := ⟨w.heap.size + 1 + 1, 4, none⟩) (show w.heap.size ≤ w.heap.size + 1 + 1 by omega) (.int .u64 (rt : Int))).kept0⟩

set_option maxHeartbeats 2000000 in
theorem content_false_n (F : Nat) (plv : Int) (A : Option Addr) (c : Nat) (hi : ByteArray) (rt : Nat) (xs : List Sl) (lvl : Nat) (w : World) (n : Nat) (hn : xs.length = n) (hF : F ≤ 1000) (hle : n ≤ F) (hR : Rs w A c xs) :
    Calls Try.prog 11 #[.agg #[.int .i64 1, .int .i64 2, .int .i64 100, .int .i64 100, .int .i64 200, .int .i64 (F : Int), .int .u64 1000], .agg #[.int .i64 plv, .slice A n c, .string hi, .bool false, .int .u64 (rt : Int)], .int .i64 (lvl : Int)] w fun e w' => ∃ A5 c5, e = .returned (.agg #[.int .i64 (lvl : Int), .slice A5 n c5, .string hi, .bool false, .int .u64 (rt : Int)]) ∧ Rs w' A5 c5 (xs.take n) ∧ (∀ a, A5 = some a → w.heap.size ≤ a.block) ∧ Kept (fun _ => False) w w' := by
  have hP0 : Blk (((w.alloc (.cells #[.int .i64 1, .int .i64 2, .int .i64 100, .int .i64 100, .int .i64 200, .int .i64 (F : Int), .int .u64 1000] 27)).alloc (.cells #[.int .i64 plv, .slice A n c, .string hi, .bool false, .int .u64 (rt : Int)] 25)).alloc (.cells #[.int .i64 0, .slice none 0 0, .string ⟨#[]⟩, .bool false, .int .u64 0] 25)) (w.heap.size + 1) 25 [.int .i64 plv, .slice A n c, .string hi, .bool false, .int .u64 (rt : Int)] := by have := (Blk.new (w.alloc (.cells #[.int .i64 1, .int .i64 2, .int .i64 100, .int .i64 100, .int .i64 200, .int .i64 (F : Int), .int .u64 1000] 27)) [.int .i64 plv, .slice A n c, .string hi, .bool false, .int .u64 (rt : Int)] 25).alloc (.cells #[.int .i64 0, .slice none 0 0, .string ⟨#[]⟩, .bool false, .int .u64 0] 25); rw [nblk_alloc] at this; exact this
  have hR0 : Blk (((w.alloc (.cells #[.int .i64 1, .int .i64 2, .int .i64 100, .int .i64 100, .int .i64 200, .int .i64 (F : Int), .int .u64 1000] 27)).alloc (.cells #[.int .i64 plv, .slice A n c, .string hi, .bool false, .int .u64 (rt : Int)] 25)).alloc (.cells #[.int .i64 0, .slice none 0 0, .string ⟨#[]⟩, .bool false, .int .u64 0] 25)) (w.heap.size + 1 + 1) 25 [.int .i64 0, .slice none 0 0, .string ⟨#[]⟩, .bool false, .int .u64 0] := by have := Blk.new ((w.alloc (.cells #[.int .i64 1, .int .i64 2, .int .i64 100, .int .i64 100, .int .i64 200, .int .i64 (F : Int), .int .u64 1000] 27)).alloc (.cells #[.int .i64 plv, .slice A n c, .string hi, .bool false, .int .u64 (rt : Int)] 25)) [.int .i64 0, .slice none 0 0, .string ⟨#[]⟩, .bool false, .int .u64 0] 25; rw [nblk_alloc, nblk_alloc] at this; exact this
  have hB0 : Below w.heap.size w (((w.alloc (.cells #[.int .i64 1, .int .i64 2, .int .i64 100, .int .i64 100, .int .i64 200, .int .i64 (F : Int), .int .u64 1000] 27)).alloc (.cells #[.int .i64 plv, .slice A n c, .string hi, .bool false, .int .u64 (rt : Int)] 25)).alloc (.cells #[.int .i64 0, .slice none 0 0, .string ⟨#[]⟩, .bool false, .int .u64 0] 25)) := (((Below.refl w.heap.size w).alloc (Nat.le_refl _) _).alloc (by rw [nblk_alloc]; omega) _).alloc (by rw [nblk_alloc, nblk_alloc]; omega) _
  have hz0 : (((w.alloc (.cells #[.int .i64 1, .int .i64 2, .int .i64 100, .int .i64 100, .int .i64 200, .int .i64 (F : Int), .int .u64 1000] 27)).alloc (.cells #[.int .i64 plv, .slice A n c, .string hi, .bool false, .int .u64 (rt : Int)] 25)).alloc (.cells #[.int .i64 0, .slice none 0 0, .string ⟨#[]⟩, .bool false, .int .u64 0] 25)).heap.size = w.heap.size + 3 := by rw [nblk_alloc, nblk_alloc, nblk_alloc]
  have hcap := hR.le
  have hmc : n ≤ c := by omega
  have hmi : (n : Int) ≤ (c : Int) := by omega
  have HR := Lib.hid (hR.below hB0 (Nat.le_refl _))
  have HP := Lib.hid hP0
  have HQ := Lib.hid hR0
  have HB := Lib.hid hB0
  have HZ := Lib.hid hz0
  clear hP0 hR0 hB0 hR hcap hz0
  go_enter Try.func11, Try.ntmps11
  go_wp2_with (at_builtin; go_must (refine wpList_app rfl (.const (.slice none 0 0)) (.tmp 15) rfl (w.heap.size + 3) _ 0 [] rfl (World.ownsRow_nil _ _ _ _) A n c (xs.take n) rfl (by rw [List.length_take]; omega) (HR.out.take n) (by omega) (Nat.le_of_eq HZ.out.symm) ?_))
  intro v1 w1 hown hB1
  obtain ⟨A5, c5, rfl, hl5, hR5, hA5⟩ := Rs.own hown
  have hP1 := HP.out.below hB1 (by omega)
  have hQ1 := HQ.out.below hB1 (by omega)
  have HB1 := Lib.hid (HB.out.trans (hB1.mono (by omega)))
  have HR5 := Lib.hid hR5
  have HA5 := Lib.hid hA5
  have y0 := hP1.cell (i := 0) rfl
  have zy0 := hP1.frozen 0
  have v0 := hQ1.cell (i := 0) rfl
  have zv0 := hQ1.frozen 0
  have y1 := hP1.cell (i := 1) rfl
  have zy1 := hP1.frozen 1
  have v1 := hQ1.cell (i := 1) rfl
  have zv1 := hQ1.frozen 1
  have y2 := hP1.cell (i := 2) rfl
  have zy2 := hP1.frozen 2
  have v2 := hQ1.cell (i := 2) rfl
  have zv2 := hQ1.frozen 2
  have y3 := hP1.cell (i := 3) rfl
  have zy3 := hP1.frozen 3
  have v3 := hQ1.cell (i := 3) rfl
  have zv3 := hQ1.frozen 3
  have y4 := hP1.cell (i := 4) rfl
  have zy4 := hP1.frozen 4
  have v4 := hQ1.cell (i := 4) rfl
  have zv4 := hQ1.frozen 4
  clear hown hB1 hl5 hR5 hA5 hP1 hQ1 HR HP HQ HB HZ
  go_wp2
  refine bodyPost_ret (v := .agg #[.int .i64 (lvl : Int), .slice A5 n c5, .string hi, .bool false, .int .u64 (rt : Int)]) (by first | (simp [results, Try.results11, go_sem]; done) | (simp [results, Try.results11, go_sem, *]; done)) rfl ?_
  exact ⟨A5, c5, rfl, HR5.out.keptF ((((((((Kept.refl (fun i => i = w.heap.size + 1 ∨ i = w.heap.size + 1 + 1) w1).setCell (a := ⟨w.heap.size + 1, 1, none⟩) (fun _ => .inl rfl) (.slice A5 n c5)).setCell (a := ⟨w.heap.size + 1, 0, none⟩) (fun _ => .inl rfl) (.int .i64 (lvl : Int))).setCell (a := ⟨w.heap.size + 1 + 1, 0, none⟩) (fun _ => .inr rfl) (.int .i64 (lvl : Int))).setCell (a := ⟨w.heap.size + 1 + 1, 1, none⟩) (fun _ => .inr rfl) (.slice A5 n c5)).setCell (a := ⟨w.heap.size + 1 + 1, 2, none⟩) (fun _ => .inr rfl) (.string hi)).setCell (a := ⟨w.heap.size + 1 + 1, 3, none⟩) (fun _ => .inr rfl) (.bool false)).setCell (a := ⟨w.heap.size + 1 + 1, 4, none⟩) (fun _ => .inr rfl) (.int .u64 (rt : Int))) (fun a ha e => by have := HA5.out a ha; rcases e with e | e <;> omega), fun a ha => by have := HA5.out a ha; omega, (((((((HB1.out.setCell (p := ⟨w.heap.size + 1, 1, none⟩) (show w.heap.size ≤ w.heap.size + 1 by omega) (.slice A5 n c5)).setCell (p := ⟨w.heap.size + 1, 0, none⟩) (show w.heap.size ≤ w.heap.size + 1 by omega) (.int .i64 (lvl : Int))).setCell (p := ⟨w.heap.size + 1 + 1, 0, none⟩) (show w.heap.size ≤ w.heap.size + 1 + 1 by omega) (.int .i64 (lvl : Int))).setCell (p := ⟨w.heap.size + 1 + 1, 1, none⟩) (show w.heap.size ≤ w.heap.size + 1 + 1 by omega) (.slice A5 n c5)).setCell (p := ⟨w.heap.size + 1 + 1, 2, none⟩) (show w.heap.size ≤ w.heap.size + 1 + 1 by omega) (.string hi)).setCell (p := ⟨w.heap.size + 1 + 1, 3, none⟩) (show w.heap.size ≤ w.heap.size + 1 + 1 by omega) (.bool false)).setCell (p := ⟨w.heap.size + 1 + 1, 4, none⟩) (show w.heap.size ≤ w.heap.size + 1 + 1 by omega) (.int .u64 (rt : Int))).kept0⟩

set_option maxHeartbeats 2000000 in
theorem content_false_F (F : Nat) (plv : Int) (A : Option Addr) (c : Nat) (hi : ByteArray) (rt : Nat) (xs : List Sl) (lvl : Nat) (w : World) (n : Nat) (hn : xs.length = n) (hF : F ≤ 1000) (hle : F < n) (hR : Rs w A c xs) :
    Calls Try.prog 11 #[.agg #[.int .i64 1, .int .i64 2, .int .i64 100, .int .i64 100, .int .i64 200, .int .i64 (F : Int), .int .u64 1000], .agg #[.int .i64 plv, .slice A n c, .string hi, .bool false, .int .u64 (rt : Int)], .int .i64 (lvl : Int)] w fun e w' => ∃ A5 c5, e = .returned (.agg #[.int .i64 (lvl : Int), .slice A5 F c5, .string hi, .bool false, .int .u64 (rt : Int)]) ∧ Rs w' A5 c5 (xs.take F) ∧ (∀ a, A5 = some a → w.heap.size ≤ a.block) ∧ Kept (fun _ => False) w w' := by
  have hP0 : Blk (((w.alloc (.cells #[.int .i64 1, .int .i64 2, .int .i64 100, .int .i64 100, .int .i64 200, .int .i64 (F : Int), .int .u64 1000] 27)).alloc (.cells #[.int .i64 plv, .slice A n c, .string hi, .bool false, .int .u64 (rt : Int)] 25)).alloc (.cells #[.int .i64 0, .slice none 0 0, .string ⟨#[]⟩, .bool false, .int .u64 0] 25)) (w.heap.size + 1) 25 [.int .i64 plv, .slice A n c, .string hi, .bool false, .int .u64 (rt : Int)] := by have := (Blk.new (w.alloc (.cells #[.int .i64 1, .int .i64 2, .int .i64 100, .int .i64 100, .int .i64 200, .int .i64 (F : Int), .int .u64 1000] 27)) [.int .i64 plv, .slice A n c, .string hi, .bool false, .int .u64 (rt : Int)] 25).alloc (.cells #[.int .i64 0, .slice none 0 0, .string ⟨#[]⟩, .bool false, .int .u64 0] 25); rw [nblk_alloc] at this; exact this
  have hR0 : Blk (((w.alloc (.cells #[.int .i64 1, .int .i64 2, .int .i64 100, .int .i64 100, .int .i64 200, .int .i64 (F : Int), .int .u64 1000] 27)).alloc (.cells #[.int .i64 plv, .slice A n c, .string hi, .bool false, .int .u64 (rt : Int)] 25)).alloc (.cells #[.int .i64 0, .slice none 0 0, .string ⟨#[]⟩, .bool false, .int .u64 0] 25)) (w.heap.size + 1 + 1) 25 [.int .i64 0, .slice none 0 0, .string ⟨#[]⟩, .bool false, .int .u64 0] := by have := Blk.new ((w.alloc (.cells #[.int .i64 1, .int .i64 2, .int .i64 100, .int .i64 100, .int .i64 200, .int .i64 (F : Int), .int .u64 1000] 27)).alloc (.cells #[.int .i64 plv, .slice A n c, .string hi, .bool false, .int .u64 (rt : Int)] 25)) [.int .i64 0, .slice none 0 0, .string ⟨#[]⟩, .bool false, .int .u64 0] 25; rw [nblk_alloc, nblk_alloc] at this; exact this
  have hB0 : Below w.heap.size w (((w.alloc (.cells #[.int .i64 1, .int .i64 2, .int .i64 100, .int .i64 100, .int .i64 200, .int .i64 (F : Int), .int .u64 1000] 27)).alloc (.cells #[.int .i64 plv, .slice A n c, .string hi, .bool false, .int .u64 (rt : Int)] 25)).alloc (.cells #[.int .i64 0, .slice none 0 0, .string ⟨#[]⟩, .bool false, .int .u64 0] 25)) := (((Below.refl w.heap.size w).alloc (Nat.le_refl _) _).alloc (by rw [nblk_alloc]; omega) _).alloc (by rw [nblk_alloc, nblk_alloc]; omega) _
  have hz0 : (((w.alloc (.cells #[.int .i64 1, .int .i64 2, .int .i64 100, .int .i64 100, .int .i64 200, .int .i64 (F : Int), .int .u64 1000] 27)).alloc (.cells #[.int .i64 plv, .slice A n c, .string hi, .bool false, .int .u64 (rt : Int)] 25)).alloc (.cells #[.int .i64 0, .slice none 0 0, .string ⟨#[]⟩, .bool false, .int .u64 0] 25)).heap.size = w.heap.size + 3 := by rw [nblk_alloc, nblk_alloc, nblk_alloc]
  have hcap := hR.le
  have hmc : F ≤ c := by omega
  have hmi : (F : Int) ≤ (c : Int) := by omega
  have HR := Lib.hid (hR.below hB0 (Nat.le_refl _))
  have HP := Lib.hid hP0
  have HQ := Lib.hid hR0
  have HB := Lib.hid hB0
  have HZ := Lib.hid hz0
  clear hP0 hR0 hB0 hR hcap hz0
  go_enter Try.func11, Try.ntmps11
  go_wp2_with (at_builtin; go_must (refine wpList_app rfl (.const (.slice none 0 0)) (.tmp 15) rfl (w.heap.size + 3) _ 0 [] rfl (World.ownsRow_nil _ _ _ _) A F c (xs.take F) rfl (by rw [List.length_take]; omega) (HR.out.take F) (by omega) (Nat.le_of_eq HZ.out.symm) ?_))
  intro v1 w1 hown hB1
  obtain ⟨A5, c5, rfl, hl5, hR5, hA5⟩ := Rs.own hown
  have hP1 := HP.out.below hB1 (by omega)
  have hQ1 := HQ.out.below hB1 (by omega)
  have HB1 := Lib.hid (HB.out.trans (hB1.mono (by omega)))
  have HR5 := Lib.hid hR5
  have HA5 := Lib.hid hA5
  have y0 := hP1.cell (i := 0) rfl
  have zy0 := hP1.frozen 0
  have v0 := hQ1.cell (i := 0) rfl
  have zv0 := hQ1.frozen 0
  have y1 := hP1.cell (i := 1) rfl
  have zy1 := hP1.frozen 1
  have v1 := hQ1.cell (i := 1) rfl
  have zv1 := hQ1.frozen 1
  have y2 := hP1.cell (i := 2) rfl
  have zy2 := hP1.frozen 2
  have v2 := hQ1.cell (i := 2) rfl
  have zv2 := hQ1.frozen 2
  have y3 := hP1.cell (i := 3) rfl
  have zy3 := hP1.frozen 3
  have v3 := hQ1.cell (i := 3) rfl
  have zv3 := hQ1.frozen 3
  have y4 := hP1.cell (i := 4) rfl
  have zy4 := hP1.frozen 4
  have v4 := hQ1.cell (i := 4) rfl
  have zv4 := hQ1.frozen 4
  clear hown hB1 hl5 hR5 hA5 hP1 hQ1 HR HP HQ HB HZ
  go_wp2
  refine bodyPost_ret (v := .agg #[.int .i64 (lvl : Int), .slice A5 F c5, .string hi, .bool false, .int .u64 (rt : Int)]) (by first | (simp [results, Try.results11, go_sem]; done) | (simp [results, Try.results11, go_sem, *]; done)) rfl ?_
  exact ⟨A5, c5, rfl, HR5.out.keptF ((((((((Kept.refl (fun i => i = w.heap.size + 1 ∨ i = w.heap.size + 1 + 1) w1).setCell (a := ⟨w.heap.size + 1, 1, none⟩) (fun _ => .inl rfl) (.slice A5 F c5)).setCell (a := ⟨w.heap.size + 1, 0, none⟩) (fun _ => .inl rfl) (.int .i64 (lvl : Int))).setCell (a := ⟨w.heap.size + 1 + 1, 0, none⟩) (fun _ => .inr rfl) (.int .i64 (lvl : Int))).setCell (a := ⟨w.heap.size + 1 + 1, 1, none⟩) (fun _ => .inr rfl) (.slice A5 F c5)).setCell (a := ⟨w.heap.size + 1 + 1, 2, none⟩) (fun _ => .inr rfl) (.string hi)).setCell (a := ⟨w.heap.size + 1 + 1, 3, none⟩) (fun _ => .inr rfl) (.bool false)).setCell (a := ⟨w.heap.size + 1 + 1, 4, none⟩) (fun _ => .inr rfl) (.int .u64 (rt : Int))) (fun a ha e => by have := HA5.out a ha; rcases e with e | e <;> omega), fun a ha => by have := HA5.out a ha; omega, (((((((HB1.out.setCell (p := ⟨w.heap.size + 1, 1, none⟩) (show w.heap.size ≤ w.heap.size + 1 by omega) (.slice A5 F c5)).setCell (p := ⟨w.heap.size + 1, 0, none⟩) (show w.heap.size ≤ w.heap.size + 1 by omega) (.int .i64 (lvl : Int))).setCell (p := ⟨w.heap.size + 1 + 1, 0, none⟩) (show w.heap.size ≤ w.heap.size + 1 + 1 by omega) (.int .i64 (lvl : Int))).setCell (p := ⟨w.heap.size + 1 + 1, 1, none⟩) (show w.heap.size ≤ w.heap.size + 1 + 1 by omega) (.slice A5 F c5)).setCell (p := ⟨w.heap.size + 1 + 1, 2, none⟩) (show w.heap.size ≤ w.heap.size + 1 + 1 by omega) (.string hi)).setCell (p := ⟨w.heap.size + 1 + 1, 3, none⟩) (show w.heap.size ≤ w.heap.size + 1 + 1 by omega) (.bool false)).setCell (p := ⟨w.heap.size + 1 + 1, 4, none⟩) (show w.heap.size ≤ w.heap.size + 1 + 1 by omega) (.int .u64 (rt : Int))).kept0⟩

/-- What the law makes of a page: at most F slots, this level, no high key if it is the last one. -/
def cut (F lvl : Nat) (hi : ByteArray) (la : Bool) (rt : Nat) (xs : List Sl) : Pg := ⟨lvl, if la = true then ⟨#[]⟩ else hi, la, rt, xs.take F⟩
theorem cut_wf (F lvl : Nat) (hi : ByteArray) (la : Bool) (rt : Nat) (xs : List Sl) : Wf (cut F lvl hi la rt xs) := fun h => if_pos h
theorem cut_len (F lvl : Nat) (hi : ByteArray) (la : Bool) (rt : Nat) (xs : List Sl) : (cut F lvl hi la rt xs).xs.length ≤ F := by show (xs.take F).length ≤ F; rw [List.length_take]; omega
theorem cut_fits {F lvl : Nat} {hi : ByteArray} {la : Bool} {rt : Nat} {xs : List Sl} (hF : F ≤ 1000) (hl : lvl ≤ 1000) (hr : rt < 18446744073709551616) (hx : ∀ x ∈ xs, x.2 < 18446744073709551616) : Fits (cut F lvl hi la rt xs) :=
  ⟨by show lvl < _; omega, hr, fun x h => hx x (List.mem_of_mem_take h), by have := cut_len F lvl hi la rt xs; omega⟩
/-- The law's content: the page P, with a row of its own. -/
theorem content_any (F : Nat) (plv : Int) (A : Option Addr) (c : Nat) (hi : ByteArray) (la : Bool) (rt : Nat) (xs : List Sl) (lvl : Nat) (w : World) (n : Nat) (hn : xs.length = n) (hF : F ≤ 1000) (hR : Rs w A c xs) (P : Pg) (hP : cut F lvl hi la rt xs = P) :
    Calls Try.prog 11 #[.agg #[.int .i64 1, .int .i64 2, .int .i64 100, .int .i64 100, .int .i64 200, .int .i64 (F : Int), .int .u64 1000], .agg #[.int .i64 plv, .slice A n c, .string hi, .bool la, .int .u64 (rt : Int)], .int .i64 (lvl : Int)] w fun e w' => ∃ A5 c5, e = .returned (.agg #[.int .i64 (P.lv : Int), .slice A5 P.xs.length c5, .string P.hi, .bool P.la, .int .u64 (P.rt : Int)]) ∧ Rs w' A5 c5 P.xs ∧ (∀ a, A5 = some a → w.heap.size ≤ a.block) ∧ Kept (fun _ => False) w w' := by
  subst hP
  have hlen : (cut F lvl hi la rt xs).xs.length = (xs.take F).length := rfl
  have hxs : (cut F lvl hi la rt xs).xs = xs.take F := rfl
  rw [hlen, hxs]
  by_cases hle : n ≤ F
  · have e1 : xs.take F = xs.take n := by rw [List.take_of_length_le (by omega), List.take_of_length_le (by omega)]
    have e2 : (xs.take n).length = n := by rw [List.length_take]; omega
    rw [e1, e2]
    cases la
    · exact content_false_n F plv A c hi rt xs lvl w n hn hF hle hR
    · exact content_true_n F plv A c hi rt xs lvl w n hn hF hle hR
  · have e2 : (xs.take F).length = F := by rw [List.length_take]; omega
    rw [e2]
    cases la
    · exact content_false_F F plv A c hi rt xs lvl w n hn hF (by omega) hR
    · exact content_true_F F plv A c hi rt xs lvl w n hn hF (by omega) hR

end Go.Proofs.Ytlehpcbhfdnkdaa
