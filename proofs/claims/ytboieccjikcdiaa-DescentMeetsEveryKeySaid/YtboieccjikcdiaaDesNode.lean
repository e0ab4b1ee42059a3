/-
  What Node of a Find and of a Below answers. Condition: the kit's small configurations.
-/
import Derived.Test.YtboieccjikcdiaaDesFind
namespace Go.Proofs.Ytboieccjikcdiaa
open Go.RowKit Go.Deep Plain
set_option linter.unusedVariables false

set_option maxHeartbeats 2000000 in
theorem fnode_got (Z : Nat → Prop) (F : Nat) (fb fd : Int) (x nid q : Nat) (tl : List Value) (w : World) (h : Blk w x 79 (wkv F fb fd nid (.pointer (some ⟨q, 0, none⟩)) 2 tl)) (y : Rst) (hr : Con Z w 1 2 100 100 200 F 1000 10 fb fd q 121 nid y.s (rtl y)) (hph : y.ph = 3) (h40 : y.s.xs.length ≤ 1099511627776) :
    Calls Try.prog 15 #[.pointer (some ⟨x, 0, none⟩)] w fun e w' => ∃ A c, e = .returned (.tuple #[.int .u64 (nid : Int), .agg #[.int .i64 (y.s.lv : Int), .slice A y.s.xs.length c, .string y.s.hi, .bool y.s.la, .int .u64 (y.s.rt : Int)]]) ∧ Rs w' A c y.s.xs ∧ (∀ a, A = some a → w.heap.size ≤ a.block) ∧ Kept (fun _ => False) w w' := by
  have hxl := h.lt
  have HX := Lib.hid h
  have HR := Lib.hid hr
  clear h hr
  go_enter Try.func15, Try.ntmps15
  go_wp2_with fail
  have hal := (Kept.refl (fun _ => False) w).alloc (.cells #[.int .i64 0, .slice none 0 0, .string ⟨#[]⟩, .bool false, .int .u64 0] 43)
  have HK1 := Lib.hid hal
  have HNB := Lib.hid (Blk.new w [.int .i64 0, .slice none 0 0, .string ⟨#[]⟩, .bool false, .int .u64 0] 43)
  replace HX := Lib.hid (hal.blk HX.out (fun h => h))
  replace HR := Lib.hid (HR.out.kept hal (fun _ _ h => h))
  have hsz : w.heap.size < (w.alloc (.cells #[.int .i64 0, .slice none 0 0, .string ⟨#[]⟩, .bool false, .int .u64 0] 43)).heap.size := by rw [nblk_alloc]; omega
  clear hal
  generalize hr0 : w.heap.size = r0 at *
  have HR0 := Lib.hid hr0
  clear hr0
  generalize w.alloc (.cells #[.int .i64 0, .slice none 0 0, .string ⟨#[]⟩, .bool false, .int .u64 0] 43) = W at *
  refine (wnode_got Z F fb fd x 79 nid q tl W HX.out y HR.out hph h40).mono ?_; rintro e w2 ⟨A, c, rfl, hRs, hA, hK2⟩
  have hb2 := hK2.blk HNB.out (fun h => h)
  have x0 := hb2.cell (i := 0) rfl
  have x1 := hb2.cell (i := 1) rfl
  have x2 := hb2.cell (i := 2) rfl
  have x3 := hb2.cell (i := 3) rfl
  have x4 := hb2.cell (i := 4) rfl
  have z0 := hb2.frozen 0
  have z1 := hb2.frozen 1
  have z2 := hb2.frozen 2
  have z3 := hb2.frozen 3
  have z4 := hb2.frozen 4
  have hK5 := (((((Kept.refl (fun i => i = r0) w2).setCell (a := ⟨r0, 0, none⟩) (fun _ => rfl) (.int .i64 (y.s.lv : Int))).setCell (a := ⟨r0, 1, none⟩) (fun _ => rfl) (.slice A y.s.xs.length c)).setCell (a := ⟨r0, 2, none⟩) (fun _ => rfl) (.string y.s.hi)).setCell (a := ⟨r0, 3, none⟩) (fun _ => rfl) (.bool y.s.la)).setCell (a := ⟨r0, 4, none⟩) (fun _ => rfl) (.int .u64 (y.s.rt : Int))
  have HNc := Lib.hid ((((((hb2).set 0 (.int .i64 (y.s.lv : Int))).set 1 (.slice A y.s.xs.length c)).set 2 (.string y.s.hi)).set 3 (.bool y.s.la)).set 4 (.int .u64 (y.s.rt : Int)))
  have HRs := Lib.hid (hRs.keptF hK5 (fun a ha e => by have := hA a ha; omega))
  have HKc := Lib.hid ((hK2.mono (T := fun i => i = r0) (fun _ h => h.elim)).trans hK5 (fun _ _ h => h))
  have HA := Lib.hid (show ∀ a, A = some a → r0 ≤ a.block from fun a ha => by have := hA a ha; omega)
  clear hb2 hK5 hRs hA hK2 HNB HR
  go_wp2
  have q0 := HNc.out.cell (i := 0) rfl
  have q1 := HNc.out.cell (i := 1) rfl
  have q2 := HNc.out.cell (i := 2) rfl
  have q3 := HNc.out.cell (i := 3) rfl
  have q4 := HNc.out.cell (i := 4) rfl
  refine bodyPost_ret (v := .tuple #[.int .u64 (nid : Int), .agg #[.int .i64 (y.s.lv : Int), .slice A y.s.xs.length c, .string y.s.hi, .bool y.s.la, .int .u64 (y.s.rt : Int)]]) ?_ rfl ?_
  · simp [results, Try.results15, go_sem, q0, q1, q2, q3, q4]
  refine ⟨A, c, rfl, HRs.out, fun a ha => by have := HA.out a ha; have := HR0.out; omega, ?_⟩
  have hKK := (HK1.out.mono (T := fun i => i = r0) (fun _ h => h.elim)).trans HKc.out (fun _ _ h => h)
  exact ⟨hKK.os, hKK.tape, hKK.output, hKK.size, fun i hi _ => hKK.block i hi (fun e => by have := HR0.out; omega)⟩

set_option maxHeartbeats 2000000 in
theorem fnode_failed (F : Nat) (fb fd : Int) (x nid : Nat) (rp : Value) (tl : List Value) (w : World) (h : Blk w x 79 (wkv F fb fd nid (rp) 3 tl)) :
    Calls Try.prog 15 #[.pointer (some ⟨x, 0, none⟩)] w fun e w' => e = .returned (.tuple #[.int .u64 0, .agg #[.int .i64 0, .slice none 0 0, .string ⟨#[]⟩, .bool false, .int .u64 0]]) ∧ Kept (fun _ => False) w w' := by
  have HX := Lib.hid h
  clear h
  go_enter Try.func15, Try.ntmps15
  go_wp2_with fail
  have hal := (Kept.refl (fun _ => False) w).alloc (.cells #[.int .i64 0, .slice none 0 0, .string ⟨#[]⟩, .bool false, .int .u64 0] 43)
  have HK1 := Lib.hid hal
  have HNB := Lib.hid (Blk.new w [.int .i64 0, .slice none 0 0, .string ⟨#[]⟩, .bool false, .int .u64 0] 43)
  replace HX := Lib.hid (hal.blk HX.out (fun h => h))
  clear hal
  generalize hr0 : w.heap.size = r0 at *
  have HR0 := Lib.hid hr0
  clear hr0
  generalize w.alloc (.cells #[.int .i64 0, .slice none 0 0, .string ⟨#[]⟩, .bool false, .int .u64 0] 43) = W at *
  refine (wnode_failed F fb fd x 79 nid rp tl W HX.out).mono ?_; rintro e w2 ⟨rfl, hK2⟩
  have hb2 := hK2.blk HNB.out (fun h => h)
  have x0 := hb2.cell (i := 0) rfl
  have x1 := hb2.cell (i := 1) rfl
  have x2 := hb2.cell (i := 2) rfl
  have x3 := hb2.cell (i := 3) rfl
  have x4 := hb2.cell (i := 4) rfl
  have z0 := hb2.frozen 0
  have z1 := hb2.frozen 1
  have z2 := hb2.frozen 2
  have z3 := hb2.frozen 3
  have z4 := hb2.frozen 4
  have hK5 := (((((Kept.refl (fun i => i = r0) w2).setCell (a := ⟨r0, 0, none⟩) (fun _ => rfl) (.int .i64 0)).setCell (a := ⟨r0, 1, none⟩) (fun _ => rfl) (.slice none 0 0)).setCell (a := ⟨r0, 2, none⟩) (fun _ => rfl) (.string ⟨#[]⟩)).setCell (a := ⟨r0, 3, none⟩) (fun _ => rfl) (.bool false)).setCell (a := ⟨r0, 4, none⟩) (fun _ => rfl) (.int .u64 0)
  have HNc := Lib.hid ((((((hb2).set 0 (.int .i64 0)).set 1 (.slice none 0 0)).set 2 (.string ⟨#[]⟩)).set 3 (.bool false)).set 4 (.int .u64 0))
  have HKc := Lib.hid ((hK2.mono (T := fun i => i = r0) (fun _ h => h.elim)).trans hK5 (fun _ _ h => h))
  clear hb2 hK5 hK2 HNB
  go_wp2
  have q0 := HNc.out.cell (i := 0) rfl
  have q1 := HNc.out.cell (i := 1) rfl
  have q2 := HNc.out.cell (i := 2) rfl
  have q3 := HNc.out.cell (i := 3) rfl
  have q4 := HNc.out.cell (i := 4) rfl
  refine bodyPost_ret (v := .tuple #[.int .u64 0, .agg #[.int .i64 0, .slice none 0 0, .string ⟨#[]⟩, .bool false, .int .u64 0]]) ?_ rfl ⟨rfl, ?_⟩
  · simp [results, Try.results15, go_sem, q0, q1, q2, q3, q4]
  have hKK := (HK1.out.mono (T := fun i => i = r0) (fun _ h => h.elim)).trans HKc.out (fun _ _ h => h)
  exact ⟨hKK.os, hKK.tape, hKK.output, hKK.size, fun i hi _ => hKK.block i hi (fun e => by have := HR0.out; omega)⟩

set_option maxHeartbeats 2000000 in
theorem bnode_got (Z : Nat → Prop) (F : Nat) (fb fd : Int) (x nid q : Nat) (key low : ByteArray) (last : Bool) (w : World) (h : Blk w x 88 (wkv F fb fd nid (.pointer (some ⟨q, 0, none⟩)) 2 [.string key, .bool last, .string low])) (y : Rst) (hr : Con Z w 1 2 100 100 200 F 1000 10 fb fd q 121 nid y.s (rtl y)) (hph : y.ph = 3) (h40 : y.s.xs.length ≤ 1099511627776) (hn0 : nid ≠ 0) :
    Calls Try.prog 25 #[.pointer (some ⟨x, 0, none⟩)] w fun e w' => ∃ A c, e = .returned (.tuple #[.int .u64 (nid : Int), .agg #[.int .i64 (y.s.lv : Int), .slice A y.s.xs.length c, .string y.s.hi, .bool y.s.la, .int .u64 (y.s.rt : Int)], .string low]) ∧ Rs w' A c y.s.xs ∧ (∀ a, A = some a → w.heap.size ≤ a.block) ∧ Kept (fun _ => False) w w' := by
  have p0 : ((nid : Int) == 0) = false := by simp; omega
  have hxl := h.lt
  have HX := Lib.hid h
  have HR := Lib.hid hr
  clear h hr
  go_enter Try.func25, Try.ntmps25
  go_wp2_with fail
  have hal := (Kept.refl (fun _ => False) w).alloc (.cells #[.int .i64 0, .slice none 0 0, .string ⟨#[]⟩, .bool false, .int .u64 0] 43)
  have HK1 := Lib.hid hal
  have HNB := Lib.hid (Blk.new w [.int .i64 0, .slice none 0 0, .string ⟨#[]⟩, .bool false, .int .u64 0] 43)
  replace HX := Lib.hid (hal.blk HX.out (fun h => h))
  replace HR := Lib.hid (HR.out.kept hal (fun _ _ h => h))
  have hsz : w.heap.size < (w.alloc (.cells #[.int .i64 0, .slice none 0 0, .string ⟨#[]⟩, .bool false, .int .u64 0] 43)).heap.size := by rw [nblk_alloc]; omega
  clear hal
  generalize hr0 : w.heap.size = r0 at *
  have HR0 := Lib.hid hr0
  clear hr0
  generalize w.alloc (.cells #[.int .i64 0, .slice none 0 0, .string ⟨#[]⟩, .bool false, .int .u64 0] 43) = W at *
  refine (wnode_got Z F fb fd x 88 nid q [.string key, .bool last, .string low] W HX.out y HR.out hph h40).mono ?_; rintro e w2 ⟨A, c, rfl, hRs, hA, hK2⟩
  have hw2 := hK2.size
  replace HX := Lib.hid (hK2.blk HX.out (fun h => h))
  have HNc := Lib.hid (hK2.blk HNB.out (fun h => h))
  have HRs := Lib.hid hRs
  have HKc := Lib.hid hK2
  have HA := Lib.hid (show ∀ a, A = some a → r0 < a.block ∧ a.block < w2.heap.size ∨ r0 < a.block from fun a ha => by have := hA a ha; omega)
  have HSZ := Lib.hid (show x < r0 ∧ r0 < w2.heap.size by omega)
  clear hK2 hRs hA hw2 hxl hsz HNB HR
  go_wp2_with fail
  have hal := (Kept.refl (fun _ => False) w2).alloc (.cells #[.int .i64 (y.s.lv : Int), .slice A y.s.xs.length c, .string y.s.hi, .bool y.s.la, .int .u64 (y.s.rt : Int)] 43)
  have HPG := Lib.hid (Blk.new w2 [.int .i64 (y.s.lv : Int), .slice A y.s.xs.length c, .string y.s.hi, .bool y.s.la, .int .u64 (y.s.rt : Int)] 43)
  replace HX := Lib.hid (hal.blk HX.out (fun h => h))
  replace HNc := Lib.hid (hal.blk HNc.out (fun h => h))
  replace HRs := Lib.hid (HRs.out.keptF hal (fun _ _ h => h))
  replace HKc := Lib.hid (((HKc.out.trans hal (fun _ _ h => h)).mono (T := fun i => i = r0) (fun _ h => h.elim)).drew)
  clear hal
  generalize hr1 : w2.heap.size = r1 at *
  replace HSZ := Lib.hid (show x ≠ r0 ∧ r0 ≠ r1 by have := HSZ.out; omega)
  clear hr1
  generalize w2.alloc (.cells #[.int .i64 (y.s.lv : Int), .slice A y.s.xs.length c, .string y.s.hi, .bool y.s.la, .int .u64 (y.s.rt : Int)] 43) = G0 at *
  replace HX := Lib.hid (HX.out.of (w' := G0.drew) rfl)
  replace HNc := Lib.hid (HNc.out.of (w' := G0.drew) rfl)
  replace HPG := Lib.hid (HPG.out.of (w' := G0.drew) rfl)
  replace HRs := Lib.hid (HRs.out.keptF (Kept.refl (fun _ => False) G0).drew (fun _ _ h => h))
  have hn9 := HNc.out
  have x0 := hn9.cell (i := 0) rfl
  have x1 := hn9.cell (i := 1) rfl
  have x2 := hn9.cell (i := 2) rfl
  have x3 := hn9.cell (i := 3) rfl
  have x4 := hn9.cell (i := 4) rfl
  have z0 := hn9.frozen 0
  have z1 := hn9.frozen 1
  have z2 := hn9.frozen 2
  have z3 := hn9.frozen 3
  have z4 := hn9.frozen 4
  clear hn9
  refine wp_region_held_drew (S := (fun w' => Blk w' x 88 (wkv F fb fd nid (.pointer (some ⟨q, 0, none⟩)) 2 [.string key, .bool last, .string low]) ∧ Blk w' r1 43 [.int .i64 (y.s.lv : Int), .slice A y.s.xs.length c, .string y.s.hi, .bool y.s.la, .int .u64 (y.s.rt : Int)])) (by kernel_rfl) ?_ (fun hHeld => ?_)
  · exact ⟨HX.out, HPG.out⟩
  generalize G0.drew = G at *
  refine wpAnyH_take (i := 0) (oi := ⟨some 17, _, _, _, _, _⟩) (v := ?_) rfl (by kernel_rfl) (by kernel_rfl) (by kernel_rfl) (fun _ _ _ h => h) (Or.inl ⟨by rfl, ?_⟩) hHeld ?_
  rotate_left
  · (intro wq hSw; go_simp; try with_reducible rfl)
  try simp only [Act.put, List.setIfInBounds_toArray, List.set_cons_zero, List.set_cons_succ]
  refine wpAnyH_take (i := 1) (oi := ⟨some 18, _, _, _, _, _⟩) (v := ?_) rfl (by kernel_rfl) (by kernel_rfl) (by kernel_rfl) (fun _ _ _ h => h) (Or.inl ⟨by rfl, ?_⟩) hHeld ?_
  rotate_left
  · (intro wq hSw; have hb9 := hSw.1; have hc9 := hSw.2; have x15 := hb9.cell (i := 15) rfl; have y0 := hc9.cell (i := 0) rfl; have y1 := hc9.cell (i := 1) rfl; have y2 := hc9.cell (i := 2) rfl; have y3 := hc9.cell (i := 3) rfl; have y4 := hc9.cell (i := 4) rfl; clear hb9 hc9; go_simp; try with_reducible rfl)
  try simp only [Act.put, List.setIfInBounds_toArray, List.set_cons_zero, List.set_cons_succ]
  refine wpAnyH_take (i := 2) (oi := ⟨some 19, _, _, _, _, _⟩) (v := ?_) rfl (by kernel_rfl) (by kernel_rfl) (by kernel_rfl) (fun _ _ _ h => h) (Or.inl ⟨by rfl, ?_⟩) hHeld ?_
  rotate_left
  · (intro wq hSw; go_simp; try with_reducible rfl)
  try simp only [Act.put, List.setIfInBounds_toArray, List.set_cons_zero, List.set_cons_succ]
  refine wpAnyH_take (i := 3) (oi := ⟨some 20, _, _, _, _, _⟩) (v := ?_) rfl (by kernel_rfl) (by kernel_rfl) (by kernel_rfl) (fun _ _ _ h => h) (Or.inl ⟨by rfl, ?_⟩) hHeld ?_
  rotate_left
  · (intro wq hSw; go_simp; try with_reducible rfl)
  try simp only [Act.put, List.setIfInBounds_toArray, List.set_cons_zero, List.set_cons_succ]
  refine wpAnyH_take (i := 4) (oi := ⟨some 21, _, _, _, _, _⟩) (v := ?_) rfl (by kernel_rfl) (by kernel_rfl) (by kernel_rfl) (fun _ _ _ h => h) (Or.inl ⟨by rfl, ?_⟩) hHeld ?_
  rotate_left
  · (intro wq hSw; go_simp; try with_reducible rfl)
  try simp only [Act.put, List.setIfInBounds_toArray, List.set_cons_zero, List.set_cons_succ]
  refine wpAnyH_take (i := 5) (oi := ⟨some 22, _, _, _, _, _⟩) (v := ?_) rfl (by kernel_rfl) (by kernel_rfl) (by kernel_rfl) (fun _ _ _ h => h) (Or.inl ⟨by rfl, ?_⟩) hHeld ?_
  rotate_left
  · (intro wq hSw; have hb9 := hSw.1; have hc9 := hSw.2; have x15 := hb9.cell (i := 15) rfl; have y0 := hc9.cell (i := 0) rfl; have y1 := hc9.cell (i := 1) rfl; have y2 := hc9.cell (i := 2) rfl; have y3 := hc9.cell (i := 3) rfl; have y4 := hc9.cell (i := 4) rfl; clear hb9 hc9; go_simp; try with_reducible rfl)
  try simp only [Act.put, List.setIfInBounds_toArray, List.set_cons_zero, List.set_cons_succ]
  refine wpAnyH_take (i := 6) (oi := ⟨some 2, _, _, _, _, _⟩) (v := ?_) rfl (by kernel_rfl) (by kernel_rfl) (by kernel_rfl) (fun _ _ _ h => h) (Or.inl ⟨by rfl, ?_⟩) hHeld ?_
  rotate_left
  · (intro wq hSw; go_simp; try with_reducible rfl)
  try simp only [Act.put, List.setIfInBounds_toArray, List.set_cons_zero, List.set_cons_succ]
  refine wpAnyH_ready (rs := [7]) (by kernel_rfl) (by simp) ?_
  refine AllReadyH.cons (o := ⟨none, _, _, _, _, _⟩) rfl (fun KK hK => ?_) AllReadyH.nil
  go_simp
  replace HKc := Lib.hid ((((((HKc.out).setCell (a := ⟨r0, 0, none⟩) (fun _ => rfl) (.int .i64 (y.s.lv : Int))).setCell (a := ⟨r0, 1, none⟩) (fun _ => rfl) (.slice A y.s.xs.length c)).setCell (a := ⟨r0, 2, none⟩) (fun _ => rfl) (.string y.s.hi)).setCell (a := ⟨r0, 3, none⟩) (fun _ => rfl) (.bool y.s.la)).setCell (a := ⟨r0, 4, none⟩) (fun _ => rfl) (.int .u64 (y.s.rt : Int)))
  have hK5 := (((((Kept.refl (fun i => i = r0) G).setCell (a := ⟨r0, 0, none⟩) (fun _ => rfl) (.int .i64 (y.s.lv : Int))).setCell (a := ⟨r0, 1, none⟩) (fun _ => rfl) (.slice A y.s.xs.length c)).setCell (a := ⟨r0, 2, none⟩) (fun _ => rfl) (.string y.s.hi)).setCell (a := ⟨r0, 3, none⟩) (fun _ => rfl) (.bool y.s.la)).setCell (a := ⟨r0, 4, none⟩) (fun _ => rfl) (.int .u64 (y.s.rt : Int))
  replace HRs := Lib.hid (HRs.out.keptF hK5 (fun a ha e => by have := HA.out a ha; omega))
  replace HX := Lib.hid (hK5.blk HX.out HSZ.out.1)
  replace HPG := Lib.hid (hK5.blk HPG.out (fun e => HSZ.out.2 e.symm))
  replace HNc := Lib.hid ((((((HNc.out).set 0 (.int .i64 (y.s.lv : Int))).set 1 (.slice A y.s.xs.length c)).set 2 (.string y.s.hi)).set 3 (.bool y.s.la)).set 4 (.int .u64 (y.s.rt : Int)))
  clear hK5
  refine hK.out _ _ ?_ (fun hHeld2 => ?_)
  · exact ⟨HX.out, HPG.out⟩
  clear hK KK hHeld
  have hHeld := hHeld2
  clear hHeld2
  try simp only [Act.put, List.setIfInBounds_toArray, List.set_cons_zero, List.set_cons_succ]
  refine wpAnyH_take (i := 8) (oi := ⟨some 4, _, _, _, _, _⟩) (v := ?_) rfl (by kernel_rfl) (by kernel_rfl) (by kernel_rfl) (fun _ _ _ h => h) (Or.inl ⟨by rfl, ?_⟩) hHeld ?_
  rotate_left
  · (intro wq hSw; go_simp; try with_reducible rfl)
  try simp only [Act.put, List.setIfInBounds_toArray, List.set_cons_zero, List.set_cons_succ]
  refine wpAnyH_done (by kernel_rfl) ?_ _
  clear hHeld
  clear x0 x1 x2 x3 x4 z0 z1 z2 z3 z4
  have q0 := HNc.out.cell (i := 0) rfl
  have q1 := HNc.out.cell (i := 1) rfl
  have q2 := HNc.out.cell (i := 2) rfl
  have q3 := HNc.out.cell (i := 3) rfl
  have q4 := HNc.out.cell (i := 4) rfl
  go_wp2
  refine bodyPost_ret (v := .tuple #[.int .u64 (nid : Int), .agg #[.int .i64 (y.s.lv : Int), .slice A y.s.xs.length c, .string y.s.hi, .bool y.s.la, .int .u64 (y.s.rt : Int)], .string low]) ?_ rfl ?_
  · simp [results, Try.results25, go_sem, q0, q1, q2, q3, q4]
  refine ⟨A, c, rfl, HRs.out, fun a ha => by have := HA.out a ha; have := HR0.out; omega, ?_⟩
  have hKK := (HK1.out.mono (T := fun i => i = r0) (fun _ h => h.elim)).trans HKc.out (fun _ _ h => h)
  exact ⟨hKK.os, hKK.tape, hKK.output, hKK.size, fun i hi _ => hKK.block i hi (fun e => by have := HR0.out; omega)⟩

set_option maxHeartbeats 2000000 in
theorem bnode_failed (F : Nat) (fb fd : Int) (x nid : Nat) (rp : Value) (tl : List Value) (w : World) (h : Blk w x 88 (wkv F fb fd nid (rp) 3 tl)) :
    Calls Try.prog 25 #[.pointer (some ⟨x, 0, none⟩)] w fun e w' => e = .returned (.tuple #[.int .u64 0, .agg #[.int .i64 0, .slice none 0 0, .string ⟨#[]⟩, .bool false, .int .u64 0], .string ⟨#[]⟩]) ∧ Kept (fun _ => False) w w' := by
  have HX := Lib.hid h
  clear h
  go_enter Try.func25, Try.ntmps25
  go_wp2_with fail
  have hal := (Kept.refl (fun _ => False) w).alloc (.cells #[.int .i64 0, .slice none 0 0, .string ⟨#[]⟩, .bool false, .int .u64 0] 43)
  have HK1 := Lib.hid hal
  have HNB := Lib.hid (Blk.new w [.int .i64 0, .slice none 0 0, .string ⟨#[]⟩, .bool false, .int .u64 0] 43)
  replace HX := Lib.hid (hal.blk HX.out (fun h => h))
  clear hal
  generalize hr0 : w.heap.size = r0 at *
  have HR0 := Lib.hid hr0
  clear hr0
  generalize w.alloc (.cells #[.int .i64 0, .slice none 0 0, .string ⟨#[]⟩, .bool false, .int .u64 0] 43) = W at *
  refine (wnode_failed F fb fd x 88 nid rp tl W HX.out).mono ?_; rintro e w2 ⟨rfl, hK2⟩
  have hw2 := hK2.size
  have hNn := (hK2.blk HNB.out (fun h => h))
  have hal := (Kept.refl (fun _ => False) w2).alloc (.cells #[.int .i64 0, .slice none 0 0, .string ⟨#[]⟩, .bool false, .int .u64 0] 43)
  have hb2 := hal.blk hNn (fun h => h)
  have x0 := hb2.cell (i := 0) rfl
  have x1 := hb2.cell (i := 1) rfl
  have x2 := hb2.cell (i := 2) rfl
  have x3 := hb2.cell (i := 3) rfl
  have x4 := hb2.cell (i := 4) rfl
  have z0 := hb2.frozen 0
  have z1 := hb2.frozen 1
  have z2 := hb2.frozen 2
  have z3 := hb2.frozen 3
  have z4 := hb2.frozen 4
  have hK5 := (((((Kept.refl (fun i => i = r0) (w2.alloc (.cells #[.int .i64 0, .slice none 0 0, .string ⟨#[]⟩, .bool false, .int .u64 0] 43))).setCell (a := ⟨r0, 0, none⟩) (fun _ => rfl) (.int .i64 0)).setCell (a := ⟨r0, 1, none⟩) (fun _ => rfl) (.slice none 0 0)).setCell (a := ⟨r0, 2, none⟩) (fun _ => rfl) (.string ⟨#[]⟩)).setCell (a := ⟨r0, 3, none⟩) (fun _ => rfl) (.bool false)).setCell (a := ⟨r0, 4, none⟩) (fun _ => rfl) (.int .u64 0)
  have HNc := Lib.hid ((((((hb2).set 0 (.int .i64 0)).set 1 (.slice none 0 0)).set 2 (.string ⟨#[]⟩)).set 3 (.bool false)).set 4 (.int .u64 0))
  have HKc := Lib.hid (((hK2.trans hal (fun _ _ h => h)).mono (T := fun i => i = r0) (fun _ h => h.elim)).trans hK5 (fun _ _ h => h))
  clear hb2 hK5 hK2 HNB hal hNn hw2
  go_wp2
  have q0 := HNc.out.cell (i := 0) rfl
  have q1 := HNc.out.cell (i := 1) rfl
  have q2 := HNc.out.cell (i := 2) rfl
  have q3 := HNc.out.cell (i := 3) rfl
  have q4 := HNc.out.cell (i := 4) rfl
  refine bodyPost_ret (v := .tuple #[.int .u64 0, .agg #[.int .i64 0, .slice none 0 0, .string ⟨#[]⟩, .bool false, .int .u64 0], .string ⟨#[]⟩]) ?_ rfl ⟨rfl, ?_⟩
  · simp [results, Try.results25, go_sem, q0, q1, q2, q3, q4]
  have hKK := (HK1.out.mono (T := fun i => i = r0) (fun _ h => h.elim)).trans HKc.out (fun _ _ h => h)
  exact ⟨hKK.os, hKK.tape, hKK.output, hKK.size, fun i hi _ => hKK.block i hi (fun e => by have := HR0.out; omega)⟩

end Go.Proofs.Ytboieccjikcdiaa
