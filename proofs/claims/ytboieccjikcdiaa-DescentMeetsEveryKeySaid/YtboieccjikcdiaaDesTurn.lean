/-
  Where a Find goes from a page, and what a walk answers at its end. Condition: the kit's small configurations.
-/
import Derived.Test.YtboieccjikcdiaaDesWalk
import Derived.Test.YtboieccjikcdiaaDesNear
import Derived.Test.YtboieccjikcdiaaDesKeys
import Derived.Test.YtboieccjikcdiaaQuietTail
namespace Go.Proofs.Ytboieccjikcdiaa
open Go.RowKit Go.Deep Plain
set_option linter.unusedVariables false

theorem within_of (key hi : ByteArray) (la r : Bool) (w : World) (h : (la || ltB key.toList hi.toList) = r) :
    Calls Try.prog 55 #[.string key, .string ⟨#[]⟩, .string hi, .bool la] w fun e w' => e = .returned (.bool r) ∧ w = w' := by
  have := within_any key ⟨#[]⟩ hi la w
  have e0 : ltB key.toList (⟨#[]⟩ : ByteArray).toList = false := by rw [Lib.toList_data ⟨#[]⟩]; exact ltB_nil _
  rw [e0, h, Bool.not_false, Bool.true_and] at this
  exact this
theorem cmp_lt_of {a b : ByteArray} : decide (cmp a.toList b.toList < 0) = ltB a.toList b.toList := cmp_lt (x := (a, 0))
set_option maxHeartbeats 2000000 in
theorem wnode_got (Z : Nat → Prop) (F : Nat) (fb fd : Int) (x : Nat) (ty : TypeId) (nid q : Nat) (tl : List Value) (w : World) (h : Blk w x ty (wkv F fb fd nid (.pointer (some ⟨q, 0, none⟩)) 2 tl)) (y : Rst) (hr : Con Z w 1 2 100 100 200 F 1000 10 fb fd q 121 nid y.s (rtl y)) (hph : y.ph = 3) (h40 : y.s.xs.length ≤ 1099511627776) :
    Calls Try.prog 36 #[.pointer (some ⟨x, 0, none⟩)] w fun e w' => ∃ A c, e = .returned (.tuple #[.int .u64 (nid : Int), .agg #[.int .i64 (y.s.lv : Int), .slice A y.s.xs.length c, .string y.s.hi, .bool y.s.la, .int .u64 (y.s.rt : Int)]]) ∧ Rs w' A c y.s.xs ∧ (∀ a, A = some a → w.heap.size ≤ a.block) ∧ Kept (fun _ => False) w w' := by
  have y10 := (h.alloc (.cells #[.int .i64 0, .slice none 0 0, .string ⟨#[]⟩, .bool false, .int .u64 0] 43)).cell (i := 10) rfl
  have y12 := (h.alloc (.cells #[.int .i64 0, .slice none 0 0, .string ⟨#[]⟩, .bool false, .int .u64 0] 43)).cell (i := 12) rfl
  have hx0 : x < w.heap.size := h.lt
  have HX := Lib.hid h
  have HR := Lib.hid hr
  clear h hr
  go_enter Try.func36, Try.ntmps36
  go_wp2_with fail
  clear y10 y12
  have hal := (Kept.refl (fun _ => False) w).alloc (.cells #[.int .i64 0, .slice none 0 0, .string ⟨#[]⟩, .bool false, .int .u64 0] 43)
  have HK1 := Lib.hid hal
  have HNB := Lib.hid (Blk.new w [.int .i64 0, .slice none 0 0, .string ⟨#[]⟩, .bool false, .int .u64 0] 43)
  replace HX := Lib.hid (hal.blk HX.out (fun h => h))
  replace HR := Lib.hid (HR.out.kept hal (fun _ _ h => h))
  clear hal
  have hxl := HX.out.lt
  have hsz : w.heap.size < (w.alloc (.cells #[.int .i64 0, .slice none 0 0, .string ⟨#[]⟩, .bool false, .int .u64 0] 43)).heap.size := by rw [nblk_alloc]; omega
  have hxw : x < w.heap.size := hx0
  clear hx0
  generalize hr0 : w.heap.size = r0 at *
  have HR0 := Lib.hid hr0
  clear hr0
  have HNE := Lib.hid (show x ≠ r0 by omega)
  clear hxl hxw
  generalize w.alloc (.cells #[.int .i64 0, .slice none 0 0, .string ⟨#[]⟩, .bool false, .int .u64 0] 43) = W at *
  have HXc := Lib.hid (HX.out.of (w' := W.drew) rfl)
  have HKc := Lib.hid ((Kept.refl (fun i => i = r0) W).drew)
  have HNc := Lib.hid (HNB.out.of (w' := W.drew) rfl)
  have HRc := Lib.hid (HR.out.kept (Kept.refl (fun _ => False) W).drew (fun _ _ h => h))
  have HW0 := Lib.hid (show r0 < W.drew.heap.size from hsz)
  clear HX HR HNB hsz
  refine wp_region_held_drew (S := (fun w' => w'.cell? ⟨x, 10, none⟩ = some (.int .u64 (nid : Int)))) (by kernel_rfl) ?_ (fun hHeld => ?_)
  · exact HXc.out.cell (i := 10) rfl
  generalize W.drew = G at *
  refine wpAnyH_take (i := 0) (oi := ⟨some 10, _, _, _, _, _⟩) (v := ?_) rfl (by kernel_rfl) (by kernel_rfl) (by kernel_rfl) (fun _ _ _ h => h) (Or.inl ⟨by rfl, ?_⟩) hHeld ?_
  rotate_left
  · (intro wq hSw; go_simp; try with_reducible rfl)
  try simp only [Act.put, List.setIfInBounds_toArray, List.set_cons_zero, List.set_cons_succ]
  refine wpAnyH_take (i := 1) (oi := ⟨some 11, _, _, _, _, _⟩) (v := ?_) rfl (by kernel_rfl) (by kernel_rfl) (by kernel_rfl) (fun _ _ _ h => h) (Or.inl ⟨by rfl, ?_⟩) hHeld ?_
  rotate_left
  · (intro wq hSw; go_simp; try with_reducible rfl)
  try simp only [Act.put, List.setIfInBounds_toArray, List.set_cons_zero, List.set_cons_succ]
  refine wpAnyH_take (i := 2) (oi := ⟨some 12, _, _, _, _, _⟩) (v := ?_) rfl (by kernel_rfl) (by kernel_rfl) (by kernel_rfl) (fun _ _ _ h => h) (Or.inl ⟨by rfl, ?_⟩) hHeld ?_
  rotate_left
  · (intro wq hSw; go_simp; try with_reducible rfl)
  try simp only [Act.put, List.setIfInBounds_toArray, List.set_cons_zero, List.set_cons_succ]
  refine wpAnyH_take (i := 3) (oi := ⟨some 13, _, _, _, _, _⟩) (v := ?_) rfl (by kernel_rfl) (by kernel_rfl) (by kernel_rfl) (fun _ _ _ h => h) (Or.inl ⟨by rfl, ?_⟩) hHeld ?_
  rotate_left
  · (intro wq hSw; have x10 := hSw; go_simp; try with_reducible rfl)
  try simp only [Act.put, List.setIfInBounds_toArray, List.set_cons_zero, List.set_cons_succ]
  refine wpAnyH_take (i := 4) (oi := ⟨some 14, _, _, _, _, _⟩) (v := ?_) rfl (by kernel_rfl) (by kernel_rfl) (by kernel_rfl) (fun _ _ _ h => h) (Or.inl ⟨by rfl, ?_⟩) hHeld ?_
  rotate_left
  · (intro wq hSw; go_simp; try with_reducible rfl)
  try simp only [Act.put, List.setIfInBounds_toArray, List.set_cons_zero, List.set_cons_succ]
  refine wpAnyH_ready (rs := [5]) (by kernel_rfl) (by simp) ?_
  refine AllReadyH.cons (o := ⟨some 15, _, _, _, _, _⟩) rfl (fun KK hK => ?_) AllReadyH.nil
  go_simp
  go_at_call 34
  refine (wpage_any Z F fb fd x ty nid q 2 tl _ HXc.out y HRc.out hph h40).mono ?_; rintro e w2 ⟨A, c, rfl, hRs, hA, hK2⟩
  replace HXc := Lib.hid (hK2.blk HXc.out (fun h => h))
  replace HNc := Lib.hid (hK2.blk HNc.out (fun h => h))
  replace HKc := Lib.hid (HKc.out.trans hK2 (fun _ _ h => h.elim))
  have HRs := Lib.hid hRs
  have HA := Lib.hid hA
  have hb2 := HNc.out
  have x0 := hb2.cell (i := 0) rfl
  have x1 := hb2.cell (i := 1) rfl
  have x2 := hb2.cell (i := 2) rfl
  have x3 := hb2.cell (i := 3) rfl
  have x4 := hb2.cell (i := 4) rfl
  have z0 := hb2.frozen 0
  have z1 := hb2.frozen 1
  have z2 := hb2.frozen 2
  have z3 := hb2.frozen 3
  have z4 := hb2.frozen 4
  clear hRs hA hK2 hb2
  refine hK.out _ _ ?_ (fun hHeld2 => ?_)
  · exact HXc.out.cell (i := 10) rfl
  clear hK KK hHeld
  have hHeld := hHeld2
  clear hHeld2
  try simp only [Act.put, List.setIfInBounds_toArray, List.set_cons_zero, List.set_cons_succ]
  refine wpAnyH_take (i := 6) (oi := ⟨some 2, _, _, _, _, _⟩) (v := ?_) rfl (by kernel_rfl) (by kernel_rfl) (by kernel_rfl) (fun _ _ _ h => h) (Or.inl ⟨by rfl, ?_⟩) hHeld ?_
  rotate_left
  · (intro wq hSw; go_simp; try with_reducible rfl)
  try simp only [Act.put, List.setIfInBounds_toArray, List.set_cons_zero, List.set_cons_succ]
  refine wpAnyH_ready (rs := [7]) (by kernel_rfl) (by simp) ?_
  refine AllReadyH.cons (o := ⟨none, _, _, _, _, _⟩) rfl (fun KK hK => ?_) AllReadyH.nil
  go_simp
  replace HKc := Lib.hid ((((((HKc.out).setCell (a := ⟨r0, 0, none⟩) (fun _ => rfl) (.int .i64 (y.s.lv : Int))).setCell (a := ⟨r0, 1, none⟩) (fun _ => rfl) (.slice A y.s.xs.length c)).setCell (a := ⟨r0, 2, none⟩) (fun _ => rfl) (.string y.s.hi)).setCell (a := ⟨r0, 3, none⟩) (fun _ => rfl) (.bool y.s.la)).setCell (a := ⟨r0, 4, none⟩) (fun _ => rfl) (.int .u64 (y.s.rt : Int)))
  replace HXc := Lib.hid ((((((HXc.out).other (a := ⟨r0, 0, none⟩) (by have := HNE.out; show x ≠ r0; omega) (.int .i64 (y.s.lv : Int))).other (a := ⟨r0, 1, none⟩) (by have := HNE.out; show x ≠ r0; omega) (.slice A y.s.xs.length c)).other (a := ⟨r0, 2, none⟩) (by have := HNE.out; show x ≠ r0; omega) (.string y.s.hi)).other (a := ⟨r0, 3, none⟩) (by have := HNE.out; show x ≠ r0; omega) (.bool y.s.la)).other (a := ⟨r0, 4, none⟩) (by have := HNE.out; show x ≠ r0; omega) (.int .u64 (y.s.rt : Int)))
  have hK5 := (((((Kept.refl (fun i => i = r0) w2).setCell (a := ⟨r0, 0, none⟩) (fun _ => rfl) (.int .i64 (y.s.lv : Int))).setCell (a := ⟨r0, 1, none⟩) (fun _ => rfl) (.slice A y.s.xs.length c)).setCell (a := ⟨r0, 2, none⟩) (fun _ => rfl) (.string y.s.hi)).setCell (a := ⟨r0, 3, none⟩) (fun _ => rfl) (.bool y.s.la)).setCell (a := ⟨r0, 4, none⟩) (fun _ => rfl) (.int .u64 (y.s.rt : Int))
  replace HRs := Lib.hid (HRs.out.keptF hK5 (fun a ha e => by have := HA.out a ha; have := HNE.out; have := HW0.out; omega))
  replace HNc := Lib.hid ((((((HNc.out).set 0 (.int .i64 (y.s.lv : Int))).set 1 (.slice A y.s.xs.length c)).set 2 (.string y.s.hi)).set 3 (.bool y.s.la)).set 4 (.int .u64 (y.s.rt : Int)))
  clear hK5
  refine hK.out _ _ ?_ (fun hHeld2 => ?_)
  · exact HXc.out.cell (i := 10) rfl
  clear hK KK hHeld
  have hHeld := hHeld2
  clear hHeld2
  try simp only [Act.put, List.setIfInBounds_toArray, List.set_cons_zero, List.set_cons_succ]
  refine wpAnyH_done (by kernel_rfl) ?_ _
  clear hHeld
  clear x0 x1 x2 x3 x4
  have q0 := HNc.out.cell (i := 0) rfl
  have q1 := HNc.out.cell (i := 1) rfl
  have q2 := HNc.out.cell (i := 2) rfl
  have q3 := HNc.out.cell (i := 3) rfl
  have q4 := HNc.out.cell (i := 4) rfl
  go_wp2
  refine bodyPost_ret (v := .tuple #[.int .u64 (nid : Int), .agg #[.int .i64 (y.s.lv : Int), .slice A y.s.xs.length c, .string y.s.hi, .bool y.s.la, .int .u64 (y.s.rt : Int)]]) ?_ rfl ?_
  · simp [results, Try.results36, go_sem, q0, q1, q2, q3, q4]
  refine ⟨A, c, rfl, HRs.out, fun a ha => by have := HA.out a ha; have := HW0.out; have := HR0.out; omega, ?_⟩
  have hKK := (HK1.out.mono (T := fun i => i = r0) (fun _ h => h.elim)).trans HKc.out (fun _ _ h => h)
  exact ⟨hKK.os, hKK.tape, hKK.output, hKK.size, fun i hi _ => hKK.block i hi (fun e => by have := HR0.out; omega)⟩

set_option maxHeartbeats 1000000 in
theorem wnode_failed (F : Nat) (fb fd : Int) (x : Nat) (ty : TypeId) (nid : Nat) (rp : Value) (tl : List Value) (w : World) (h : Blk w x ty (wkv F fb fd nid (rp) 3 tl)) :
    Calls Try.prog 36 #[.pointer (some ⟨x, 0, none⟩)] w fun e w' => e = .returned (.tuple #[.int .u64 0, .agg #[.int .i64 0, .slice none 0 0, .string ⟨#[]⟩, .bool false, .int .u64 0]]) ∧ Kept (fun _ => False) w w' := by
  have y12 := (h.alloc (.cells #[.int .i64 0, .slice none 0 0, .string ⟨#[]⟩, .bool false, .int .u64 0] 43)).cell (i := 12) rfl
  clear h
  go_enter Try.func36, Try.ntmps36
  go_wp2
  have hNB := Blk.new w [.int .i64 0, .slice none 0 0, .string ⟨#[]⟩, .bool false, .int .u64 0] 43
  have q0 := hNB.cell (i := 0) rfl
  have q1 := hNB.cell (i := 1) rfl
  have q2 := hNB.cell (i := 2) rfl
  have q3 := hNB.cell (i := 3) rfl
  have q4 := hNB.cell (i := 4) rfl
  clear hNB
  refine bodyPost_ret (v := .tuple #[.int .u64 0, .agg #[.int .i64 0, .slice none 0 0, .string ⟨#[]⟩, .bool false, .int .u64 0]]) ?_ rfl ⟨rfl, ?_⟩
  · simp [results, Try.results36, go_sem, q0, q1, q2, q3, q4]
  · exact (Kept.refl _ _).alloc _

set_option maxHeartbeats 2000000 in
theorem fturn_low (F : Nat) (h4 : 4 ≤ F) (h6 : F ≤ 6) (fb fd : Int) (hd : Reach3 10 fb fd) (x nid : Nat) (rp : Value) (ph : Int) (key : ByteArray) (lvl : Nat) (w : World) (h : Blk w x 79 (wkv F fb fd nid (rp) ph [.string key, .int .i64 (lvl : Int)])) (lv : Nat) (A : Option Addr) (c : Nat) (hi : ByteArray) (la : Bool) (rt : Nat) (xs : List Sl) (n : Nat) (hn : xs.length = n) (h40 : n ≤ 1099511627776) (hR : Rs w A c xs) (ha : Asc xs) (hlt : lv < lvl) :
    Calls Try.prog 33 #[.pointer (some ⟨x, 0, none⟩), .agg #[.int .i64 (lv : Int), .slice A n c, .string hi, .bool la, .int .u64 (rt : Int)]] w fun e w' => e = .returned (.tuple #[]) ∧ Blk w' x 79 (wkv F fb fd nid (rp) 3 [.string key, .int .i64 (lvl : Int)]) ∧ Kept (fun i => i = x) w w' := by
  have p1 : decide ((lv : Int) < (lvl : Int)) = true := decide_eq_true (by omega)
  have p1' : (lv : Int) < (lvl : Int) := by omega
  have HX := Lib.hid h
  have HR := Lib.hid hR
  have HA := Lib.hid ha
  clear h hR ha
  go_enter Try.func33, Try.ntmps33
  go_wp2_with fail
  have hal := (Kept.refl (fun _ => False) w).alloc (.cells #[.int .i64 (lv : Int), .slice A n c, .string hi, .bool la, .int .u64 (rt : Int)] 43)
  have HK := Lib.hid hal
  have HP := Lib.hid (Blk.new w [.int .i64 (lv : Int), .slice A n c, .string hi, .bool la, .int .u64 (rt : Int)] 43)
  replace HX := Lib.hid (hal.blk HX.out (fun h => h))
  replace HR := Lib.hid (HR.out.keptF hal (fun _ _ h => h))
  clear hal
  generalize hr0 : w.heap.size = r0 at HP ⊢
  have HR0 := Lib.hid hr0
  clear hr0
  generalize w.alloc (.cells #[.int .i64 (lv : Int), .slice A n c, .string hi, .bool la, .int .u64 (rt : Int)] 43) = W at *
  have HW := Lib.hid (Kept.refl (fun _ => False) W)
  refine qregion (fun w' => Kept (fun _ => False) W w') (by kernel_rfl) (by kernel_rfl) HW.out.drew ?_
  refine qstep (o := ⟨some 11, _, _, _, _, _⟩) (v := ?_) (by rfl) (fun wq hSw => ?_) ?_
  rotate_left
  · (go_simp; try with_reducible rfl)
  try simp only [Act.put, List.setIfInBounds_toArray, List.set_cons_zero, List.set_cons_succ]
  refine qstep (o := ⟨some 12, _, _, _, _, _⟩) (v := ?_) (by rfl) (fun wq hSw => ?_) ?_
  rotate_left
  · (have hx9 := hSw.blk HX.out (fun h => h); have x14 := hx9.cell (i := 14) rfl; have hp9 := hSw.blk HP.out (fun h => h); have y0 := hp9.cell (i := 0) rfl; clear hx9 hp9; go_simp; try with_reducible rfl)
  try simp only [Act.put, List.setIfInBounds_toArray, List.set_cons_zero, List.set_cons_succ]
  refine qstep (o := ⟨some 13, _, _, _, _, _⟩) (v := ?_) (by rfl) (fun wq hSw => ?_) ?_
  rotate_left
  · (go_simp; try with_reducible rfl)
  try simp only [Act.put, List.setIfInBounds_toArray, List.set_cons_zero, List.set_cons_succ]
  refine qstep (o := ⟨some 14, _, _, _, _, _⟩) (v := ?_) (by rfl) (fun wq hSw => ?_) ?_
  rotate_left
  · (go_simp; try with_reducible rfl)
  try simp only [Act.put, List.setIfInBounds_toArray, List.set_cons_zero, List.set_cons_succ]
  refine qstep (o := ⟨some 15, _, _, _, _, _⟩) (v := ?_) (by rfl) (fun wq hSw => ?_) ?_
  rotate_left
  · (go_simp; try with_reducible rfl)
  try simp only [Act.put, List.setIfInBounds_toArray, List.set_cons_zero, List.set_cons_succ]
  refine qstep (o := ⟨some 16, _, _, _, _, _⟩) (v := ?_) (by rfl) (fun wq hSw => ?_) ?_
  rotate_left
  · (have hx9 := hSw.blk HX.out (fun h => h); have x14 := hx9.cell (i := 14) rfl; have hp9 := hSw.blk HP.out (fun h => h); have y0 := hp9.cell (i := 0) rfl; clear hx9 hp9; go_simp; try with_reducible rfl)
  try simp only [Act.put, List.setIfInBounds_toArray, List.set_cons_zero, List.set_cons_succ]
  refine qstep (o := ⟨some 17, _, _, _, _, _⟩) (v := .bool true) (by rfl) (fun wq hSw => ?_) ?_
  · (go_simp; try first | (with_reducible rfl) | (simp; omega) | (intros; omega) | simp [*])
  try simp only [Act.put, List.setIfInBounds_toArray, List.set_cons_zero, List.set_cons_succ]
  refine qstep (o := ⟨some 18, _, _, _, _, _⟩) (v := .bool true) (by rfl) (fun wq hSw => ?_) ?_
  · (go_simp; try first | (with_reducible rfl) | (simp; omega) | (intros; omega) | simp [*])
  try simp only [Act.put, List.setIfInBounds_toArray, List.set_cons_zero, List.set_cons_succ]
  go_big_quiet_skip
  try simp only [Act.put, List.setIfInBounds_toArray, List.set_cons_zero, List.set_cons_succ]
  go_big_quiet_skip
  try simp only [Act.put, List.setIfInBounds_toArray, List.set_cons_zero, List.set_cons_succ]
  go_big_quiet_skip
  try simp only [Act.put, List.setIfInBounds_toArray, List.set_cons_zero, List.set_cons_succ]
  go_big_quiet_skip
  try simp only [Act.put, List.setIfInBounds_toArray, List.set_cons_zero, List.set_cons_succ]
  go_big_quiet_skip
  try simp only [Act.put, List.setIfInBounds_toArray, List.set_cons_zero, List.set_cons_succ]
  refine qstep (o := ⟨some 24, _, _, _, _, _⟩) (v := .bool true) (by rfl) (fun wq hSw => ?_) ?_
  · (go_simp; try first | (with_reducible rfl) | (simp; omega) | (intros; omega) | simp [*])
  try simp only [Act.put, List.setIfInBounds_toArray, List.set_cons_zero, List.set_cons_succ]
  refine qstep (o := ⟨some 10, _, _, _, _, _⟩) (v := .bool true) (by rfl) (fun wq hSw => ?_) ?_
  · (go_simp; try first | (with_reducible rfl) | (simp; omega) | (intros; omega) | simp [*])
  try simp only [Act.put, List.setIfInBounds_toArray, List.set_cons_zero, List.set_cons_succ]
  refine wpQuiet_nil ?_
  intro wz hHeld
  replace HW := Lib.hid hHeld
  clear hHeld
  go_wp2_with fail
  refine (fail_any F fb fd x 79 nid rp ph [.string key, .int .i64 (lvl : Int)] _ (HW.out.blk HX.out (fun h => h))).mono ?_; rintro e w3 ⟨rfl, hB3, hK3⟩
  have HB3 := Lib.hid hB3
  have HK3 := Lib.hid (((HK.out.trans HW.out (fun _ _ h => h)).mono (T := fun i => i = x) (fun _ h => h.elim)).trans hK3 (fun _ _ h => h))
  clear hB3 hK3
  go_wp2
  go_end0
  exact ⟨rfl, HB3.out, HK3.out⟩

set_option maxHeartbeats 2000000 in
theorem fturn_right (F : Nat) (h4 : 4 ≤ F) (h6 : F ≤ 6) (fb fd : Int) (hd : Reach3 10 fb fd) (x nid : Nat) (rp : Value) (ph : Int) (key : ByteArray) (lvl : Nat) (w : World) (h : Blk w x 79 (wkv F fb fd nid (rp) ph [.string key, .int .i64 (lvl : Int)])) (lv : Nat) (A : Option Addr) (c : Nat) (hi : ByteArray) (la : Bool) (rt : Nat) (xs : List Sl) (n : Nat) (hn : xs.length = n) (h40 : n ≤ 1099511627776) (hR : Rs w A c xs) (ha : Asc xs) (hle : lvl ≤ lv) (hwi : (la || ltB key.toList hi.toList) = false) (hn0 : rt ≠ 0) :
    Calls Try.prog 33 #[.pointer (some ⟨x, 0, none⟩), .agg #[.int .i64 (lv : Int), .slice A n c, .string hi, .bool la, .int .u64 (rt : Int)]] w fun e w' => ∃ q, e = .returned (.tuple #[]) ∧ Blk w' x 79 (wkv F fb fd rt (.pointer (some ⟨q, 0, none⟩)) 1 [.string key, .int .i64 (lvl : Int)]) ∧ Con (fun i => i = q) w' 1 2 100 100 200 F 1000 10 fb fd q 121 rt cs0 [.int .u64 0, .int .i64 0] ∧ w.heap.size ≤ q ∧ Kept (fun i => i = x) w w' := by
  have p1 : decide ((lv : Int) < (lvl : Int)) = false := decide_eq_false (by omega)
  have p1' : ¬ (lv : Int) < (lvl : Int) := by omega
  have p2 : decide ((lvl : Int) < 0) = false := decide_eq_false (by omega)
  have HX := Lib.hid h
  have HR := Lib.hid hR
  have HA := Lib.hid ha
  clear h hR ha
  go_enter Try.func33, Try.ntmps33
  go_wp2_with fail
  have hal := (Kept.refl (fun _ => False) w).alloc (.cells #[.int .i64 (lv : Int), .slice A n c, .string hi, .bool la, .int .u64 (rt : Int)] 43)
  have HK := Lib.hid hal
  have HP := Lib.hid (Blk.new w [.int .i64 (lv : Int), .slice A n c, .string hi, .bool la, .int .u64 (rt : Int)] 43)
  replace HX := Lib.hid (hal.blk HX.out (fun h => h))
  replace HR := Lib.hid (HR.out.keptF hal (fun _ _ h => h))
  clear hal
  generalize hr0 : w.heap.size = r0 at HP ⊢
  have HR0 := Lib.hid hr0
  clear hr0
  generalize w.alloc (.cells #[.int .i64 (lv : Int), .slice A n c, .string hi, .bool la, .int .u64 (rt : Int)] 43) = W at *
  have HW := Lib.hid (Kept.refl (fun _ => False) W)
  refine qregion (fun w' => Kept (fun _ => False) W w') (by kernel_rfl) (by kernel_rfl) HW.out.drew ?_
  refine qstep (o := ⟨some 11, _, _, _, _, _⟩) (v := ?_) (by rfl) (fun wq hSw => ?_) ?_
  rotate_left
  · (go_simp; try with_reducible rfl)
  try simp only [Act.put, List.setIfInBounds_toArray, List.set_cons_zero, List.set_cons_succ]
  refine qstep (o := ⟨some 12, _, _, _, _, _⟩) (v := ?_) (by rfl) (fun wq hSw => ?_) ?_
  rotate_left
  · (have hx9 := hSw.blk HX.out (fun h => h); have x14 := hx9.cell (i := 14) rfl; have hp9 := hSw.blk HP.out (fun h => h); have y0 := hp9.cell (i := 0) rfl; clear hx9 hp9; go_simp; try with_reducible rfl)
  try simp only [Act.put, List.setIfInBounds_toArray, List.set_cons_zero, List.set_cons_succ]
  refine qstep (o := ⟨some 13, _, _, _, _, _⟩) (v := ?_) (by rfl) (fun wq hSw => ?_) ?_
  rotate_left
  · (go_simp; try with_reducible rfl)
  try simp only [Act.put, List.setIfInBounds_toArray, List.set_cons_zero, List.set_cons_succ]
  refine qstep (o := ⟨some 14, _, _, _, _, _⟩) (v := ?_) (by rfl) (fun wq hSw => ?_) ?_
  rotate_left
  · (go_simp; try with_reducible rfl)
  try simp only [Act.put, List.setIfInBounds_toArray, List.set_cons_zero, List.set_cons_succ]
  refine qstep (o := ⟨some 15, _, _, _, _, _⟩) (v := ?_) (by rfl) (fun wq hSw => ?_) ?_
  rotate_left
  · (go_simp; try with_reducible rfl)
  try simp only [Act.put, List.setIfInBounds_toArray, List.set_cons_zero, List.set_cons_succ]
  refine qstep (o := ⟨some 16, _, _, _, _, _⟩) (v := ?_) (by rfl) (fun wq hSw => ?_) ?_
  rotate_left
  · (have hx9 := hSw.blk HX.out (fun h => h); have x14 := hx9.cell (i := 14) rfl; have hp9 := hSw.blk HP.out (fun h => h); have y0 := hp9.cell (i := 0) rfl; clear hx9 hp9; go_simp; try with_reducible rfl)
  try simp only [Act.put, List.setIfInBounds_toArray, List.set_cons_zero, List.set_cons_succ]
  refine qstep (o := ⟨some 17, _, _, _, _, _⟩) (v := .bool false) (by rfl) (fun wq hSw => ?_) ?_
  · (go_simp; try first | (with_reducible rfl) | (simp; omega) | (intros; omega) | simp [*])
  try simp only [Act.put, List.setIfInBounds_toArray, List.set_cons_zero, List.set_cons_succ]
  refine qstep (o := ⟨some 18, _, _, _, _, _⟩) (v := .bool false) (by rfl) (fun wq hSw => ?_) ?_
  · (go_simp; try first | (with_reducible rfl) | (simp; omega) | (intros; omega) | simp [*])
  try simp only [Act.put, List.setIfInBounds_toArray, List.set_cons_zero, List.set_cons_succ]
  refine qstep (o := ⟨some 19, _, _, _, _, _⟩) (v := ?_) (by rfl) (fun wq hSw => ?_) ?_
  rotate_left
  · (go_simp; try with_reducible rfl)
  try simp only [Act.put, List.setIfInBounds_toArray, List.set_cons_zero, List.set_cons_succ]
  refine qstep (o := ⟨some 20, _, _, _, _, _⟩) (v := ?_) (by rfl) (fun wq hSw => ?_) ?_
  rotate_left
  · (go_simp; try with_reducible rfl)
  try simp only [Act.put, List.setIfInBounds_toArray, List.set_cons_zero, List.set_cons_succ]
  refine qstep (o := ⟨some 21, _, _, _, _, _⟩) (v := ?_) (by rfl) (fun wq hSw => ?_) ?_
  rotate_left
  · (go_simp; try with_reducible rfl)
  try simp only [Act.put, List.setIfInBounds_toArray, List.set_cons_zero, List.set_cons_succ]
  refine qstep (o := ⟨some 22, _, _, _, _, _⟩) (v := ?_) (by rfl) (fun wq hSw => ?_) ?_
  rotate_left
  · (have hx9 := hSw.blk HX.out (fun h => h); have x14 := hx9.cell (i := 14) rfl; have hp9 := hSw.blk HP.out (fun h => h); have y0 := hp9.cell (i := 0) rfl; clear hx9 hp9; go_simp; try with_reducible rfl)
  try simp only [Act.put, List.setIfInBounds_toArray, List.set_cons_zero, List.set_cons_succ]
  refine qstep (o := ⟨some 23, _, _, _, _, _⟩) (v := .bool false) (by rfl) (fun wq hSw => ?_) ?_
  · (go_simp; try first | (with_reducible rfl) | (simp; omega) | (intros; omega) | simp [*])
  try simp only [Act.put, List.setIfInBounds_toArray, List.set_cons_zero, List.set_cons_succ]
  refine qstep (o := ⟨some 24, _, _, _, _, _⟩) (v := .bool false) (by rfl) (fun wq hSw => ?_) ?_
  · (go_simp; try first | (with_reducible rfl) | (simp; omega) | (intros; omega) | simp [*])
  try simp only [Act.put, List.setIfInBounds_toArray, List.set_cons_zero, List.set_cons_succ]
  refine qstep (o := ⟨some 10, _, _, _, _, _⟩) (v := .bool false) (by rfl) (fun wq hSw => ?_) ?_
  · (go_simp; try first | (with_reducible rfl) | (simp; omega) | (intros; omega) | simp [*])
  try simp only [Act.put, List.setIfInBounds_toArray, List.set_cons_zero, List.set_cons_succ]
  refine wpQuiet_nil ?_
  intro wz hHeld
  replace HW := Lib.hid hHeld
  clear hHeld
  go_wp2_with fail
  refine qregion (fun w' => Kept (fun _ => False) W w') (by kernel_rfl) (by kernel_rfl) HW.out.drew ?_
  refine qstep (o := ⟨some 30, _, _, _, _, _⟩) (v := ?_) (by rfl) (fun wq hSw => ?_) ?_
  rotate_left
  · (go_simp; try with_reducible rfl)
  try simp only [Act.put, List.setIfInBounds_toArray, List.set_cons_zero, List.set_cons_succ]
  refine qstep (o := ⟨some 31, _, _, _, _, _⟩) (v := ?_) (by rfl) (fun wq hSw => ?_) ?_
  rotate_left
  · (go_simp; try with_reducible rfl)
  try simp only [Act.put, List.setIfInBounds_toArray, List.set_cons_zero, List.set_cons_succ]
  refine qstep (o := ⟨some 32, _, _, _, _, _⟩) (v := ?_) (by rfl) (fun wq hSw => ?_) ?_
  rotate_left
  · (go_simp; try with_reducible rfl)
  try simp only [Act.put, List.setIfInBounds_toArray, List.set_cons_zero, List.set_cons_succ]
  refine qstep (o := ⟨some 33, _, _, _, _, _⟩) (v := ?_) (by rfl) (fun wq hSw => ?_) ?_
  rotate_left
  · (have hx9 := hSw.blk HX.out (fun h => h); have x13 := hx9.cell (i := 13) rfl; have hp9 := hSw.blk HP.out (fun h => h); have y2 := hp9.cell (i := 2) rfl; have y3 := hp9.cell (i := 3) rfl; clear hx9 hp9; go_simp; try with_reducible rfl)
  try simp only [Act.put, List.setIfInBounds_toArray, List.set_cons_zero, List.set_cons_succ]
  refine qstep (o := ⟨some 34, _, _, _, _, _⟩) (v := ?_) (by rfl) (fun wq hSw => ?_) ?_
  rotate_left
  · (go_simp; try with_reducible rfl)
  try simp only [Act.put, List.setIfInBounds_toArray, List.set_cons_zero, List.set_cons_succ]
  refine qstep (o := ⟨some 35, _, _, _, _, _⟩) (v := ?_) (by rfl) (fun wq hSw => ?_) ?_
  rotate_left
  · (have hx9 := hSw.blk HX.out (fun h => h); have x13 := hx9.cell (i := 13) rfl; have hp9 := hSw.blk HP.out (fun h => h); have y2 := hp9.cell (i := 2) rfl; have y3 := hp9.cell (i := 3) rfl; clear hx9 hp9; go_simp; try with_reducible rfl)
  try simp only [Act.put, List.setIfInBounds_toArray, List.set_cons_zero, List.set_cons_succ]
  refine qstep (o := ⟨some 36, _, _, _, _, _⟩) (v := ?_) (by rfl) (fun wq hSw => ?_) ?_
  rotate_left
  · (go_simp; try with_reducible rfl)
  try simp only [Act.put, List.setIfInBounds_toArray, List.set_cons_zero, List.set_cons_succ]
  refine qstep (o := ⟨some 37, _, _, _, _, _⟩) (v := ?_) (by rfl) (fun wq hSw => ?_) ?_
  rotate_left
  · (have hx9 := hSw.blk HX.out (fun h => h); have x13 := hx9.cell (i := 13) rfl; have hp9 := hSw.blk HP.out (fun h => h); have y2 := hp9.cell (i := 2) rfl; have y3 := hp9.cell (i := 3) rfl; clear hx9 hp9; go_simp; try with_reducible rfl)
  try simp only [Act.put, List.setIfInBounds_toArray, List.set_cons_zero, List.set_cons_succ]
  refine qcall (o := ⟨some 38, _, _, _, _, _⟩) (v := .bool false) (by rfl) (fun wq hSw => ?_) (fun wq hSw => Calls.mono (within_of key hi la false _ hwi) ?_) ?_
  · (go_simp; try with_reducible rfl)
  · rintro e w9 ⟨rfl, rfl⟩; exact ⟨rfl, hSw⟩
  try simp only [Act.put, List.setIfInBounds_toArray, List.set_cons_zero, List.set_cons_succ]
  refine qstep (o := ⟨some 39, _, _, _, _, _⟩) (v := .bool true) (by rfl) (fun wq hSw => ?_) ?_
  · (go_simp; try first | (with_reducible rfl) | (simp; omega) | (intros; omega) | simp [*])
  try simp only [Act.put, List.setIfInBounds_toArray, List.set_cons_zero, List.set_cons_succ]
  refine qstep (o := ⟨some 29, _, _, _, _, _⟩) (v := .bool true) (by rfl) (fun wq hSw => ?_) ?_
  · (go_simp; try first | (with_reducible rfl) | (simp; omega) | (intros; omega) | simp [*])
  try simp only [Act.put, List.setIfInBounds_toArray, List.set_cons_zero, List.set_cons_succ]
  refine wpQuiet_nil ?_
  intro wz hHeld
  replace HW := Lib.hid hHeld
  clear hHeld
  go_wp2_with fail
  refine qtail 5 (fun w' => Kept (fun _ => False) W w') (by kernel_rfl) (by kernel_rfl) HW.out.drew ?_
  simp only [List.take_succ_cons, List.take_zero, List.drop_succ_cons, List.drop_zero]
  refine qstep (o := ⟨some 40, _, _, _, _, _⟩) (v := ?_) (by rfl) (fun wq hSw => ?_) ?_
  rotate_left
  · (go_simp; try with_reducible rfl)
  try simp only [Act.put, List.setIfInBounds_toArray, List.set_cons_zero, List.set_cons_succ]
  refine qstep (o := ⟨some 41, _, _, _, _, _⟩) (v := ?_) (by rfl) (fun wq hSw => ?_) ?_
  rotate_left
  · (go_simp; try with_reducible rfl)
  try simp only [Act.put, List.setIfInBounds_toArray, List.set_cons_zero, List.set_cons_succ]
  refine qstep (o := ⟨some 42, _, _, _, _, _⟩) (v := ?_) (by rfl) (fun wq hSw => ?_) ?_
  rotate_left
  · (go_simp; try with_reducible rfl)
  try simp only [Act.put, List.setIfInBounds_toArray, List.set_cons_zero, List.set_cons_succ]
  refine qstep (o := ⟨some 43, _, _, _, _, _⟩) (v := ?_) (by rfl) (fun wq hSw => ?_) ?_
  rotate_left
  · (go_simp; try with_reducible rfl)
  try simp only [Act.put, List.setIfInBounds_toArray, List.set_cons_zero, List.set_cons_succ]
  refine qstep (o := ⟨some 44, _, _, _, _, _⟩) (v := ?_) (by rfl) (fun wq hSw => ?_) ?_
  rotate_left
  · (have hx9 := hSw.blk HX.out (fun h => h); have hp9 := hSw.blk HP.out (fun h => h); have y4 := hp9.cell (i := 4) rfl; clear hx9 hp9; go_simp; try with_reducible rfl)
  try simp only [Act.put, List.setIfInBounds_toArray, List.set_cons_zero, List.set_cons_succ]
  refine wpQuiet_nil ?_
  intro wz hHeld
  replace HW := Lib.hid hHeld
  clear hHeld
  go_wp2_with fail
  refine (goTo_some F h4 h6 fb fd hd x 79 nid rp ph [.string key, .int .i64 (lvl : Int)] _ (HW.out.blk HX.out (fun h => h)) rt hn0).mono ?_; rintro e w3 ⟨q, rfl, hB3, hC3, hq3, hK3⟩
  have HB3 := Lib.hid hB3
  have HC3 := Lib.hid hC3
  have HQ := Lib.hid (Nat.le_trans (Nat.le_trans HK.out.size HW.out.size) hq3)
  have HK3 := Lib.hid (((HK.out.trans HW.out (fun _ _ h => h)).mono (T := fun i => i = x) (fun _ h => h.elim)).trans hK3 (fun _ _ h => h))
  clear hB3 hC3 hq3 hK3
  go_wp2
  go_end0
  exact ⟨q, rfl, HB3.out, HC3.out, HQ.out, HK3.out⟩

set_option maxHeartbeats 4000000 in
theorem fturn_down (F : Nat) (h4 : 4 ≤ F) (h6 : F ≤ 6) (fb fd : Int) (hd : Reach3 10 fb fd) (x nid : Nat) (rp : Value) (ph : Int) (key : ByteArray) (lvl : Nat) (w : World) (h : Blk w x 79 (wkv F fb fd nid (rp) ph [.string key, .int .i64 (lvl : Int)])) (lv : Nat) (A : Option Addr) (c : Nat) (hi : ByteArray) (la : Bool) (rt : Nat) (xs : List Sl) (n : Nat) (hn : xs.length = n) (h40 : n ≤ 1099511627776) (hR : Rs w A c xs) (ha : Asc xs) (hlt : lvl < lv) (hwi : (la || ltB key.toList hi.toList) = true) (s : ByteArray) (r : Nat) (bb : Bool) (hnr : near (before xs (if has key xs = true then cnt key xs + 1 else cnt key xs)) = (s, r, bb)) (hn0 : r ≠ 0) :
    Calls Try.prog 33 #[.pointer (some ⟨x, 0, none⟩), .agg #[.int .i64 (lv : Int), .slice A n c, .string hi, .bool la, .int .u64 (rt : Int)]] w fun e w' => ∃ q, e = .returned (.tuple #[]) ∧ Blk w' x 79 (wkv F fb fd r (.pointer (some ⟨q, 0, none⟩)) 1 [.string key, .int .i64 (lvl : Int)]) ∧ Con (fun i => i = q) w' 1 2 100 100 200 F 1000 10 fb fd q 121 r cs0 [.int .u64 0, .int .i64 0] ∧ w.heap.size ≤ q ∧ Kept (fun i => i = x) w w' := by
  have p1 : decide ((lv : Int) < (lvl : Int)) = false := decide_eq_false (by omega)
  have p1' : ¬ (lv : Int) < (lvl : Int) := by omega
  have p2 : decide ((lvl : Int) < 0) = false := decide_eq_false (by omega)
  have p3 : decide ((lvl : Int) < (lv : Int)) = true := decide_eq_true (by omega)
  have HX := Lib.hid h
  have HR := Lib.hid hR
  have HA := Lib.hid ha
  clear h hR ha
  go_enter Try.func33, Try.ntmps33
  go_wp2_with fail
  have hal := (Kept.refl (fun _ => False) w).alloc (.cells #[.int .i64 (lv : Int), .slice A n c, .string hi, .bool la, .int .u64 (rt : Int)] 43)
  have HK := Lib.hid hal
  have HP := Lib.hid (Blk.new w [.int .i64 (lv : Int), .slice A n c, .string hi, .bool la, .int .u64 (rt : Int)] 43)
  replace HX := Lib.hid (hal.blk HX.out (fun h => h))
  replace HR := Lib.hid (HR.out.keptF hal (fun _ _ h => h))
  clear hal
  generalize hr0 : w.heap.size = r0 at HP ⊢
  have HR0 := Lib.hid hr0
  clear hr0
  generalize w.alloc (.cells #[.int .i64 (lv : Int), .slice A n c, .string hi, .bool la, .int .u64 (rt : Int)] 43) = W at *
  have HW := Lib.hid (Kept.refl (fun _ => False) W)
  refine qregion (fun w' => Kept (fun _ => False) W w') (by kernel_rfl) (by kernel_rfl) HW.out.drew ?_
  refine qstep (o := ⟨some 11, _, _, _, _, _⟩) (v := ?_) (by rfl) (fun wq hSw => ?_) ?_
  rotate_left
  · (go_simp; try with_reducible rfl)
  try simp only [Act.put, List.setIfInBounds_toArray, List.set_cons_zero, List.set_cons_succ]
  refine qstep (o := ⟨some 12, _, _, _, _, _⟩) (v := ?_) (by rfl) (fun wq hSw => ?_) ?_
  rotate_left
  · (have hx9 := hSw.blk HX.out (fun h => h); have x14 := hx9.cell (i := 14) rfl; have hp9 := hSw.blk HP.out (fun h => h); have y0 := hp9.cell (i := 0) rfl; clear hx9 hp9; go_simp; try with_reducible rfl)
  try simp only [Act.put, List.setIfInBounds_toArray, List.set_cons_zero, List.set_cons_succ]
  refine qstep (o := ⟨some 13, _, _, _, _, _⟩) (v := ?_) (by rfl) (fun wq hSw => ?_) ?_
  rotate_left
  · (go_simp; try with_reducible rfl)
  try simp only [Act.put, List.setIfInBounds_toArray, List.set_cons_zero, List.set_cons_succ]
  refine qstep (o := ⟨some 14, _, _, _, _, _⟩) (v := ?_) (by rfl) (fun wq hSw => ?_) ?_
  rotate_left
  · (go_simp; try with_reducible rfl)
  try simp only [Act.put, List.setIfInBounds_toArray, List.set_cons_zero, List.set_cons_succ]
  refine qstep (o := ⟨some 15, _, _, _, _, _⟩) (v := ?_) (by rfl) (fun wq hSw => ?_) ?_
  rotate_left
  · (go_simp; try with_reducible rfl)
  try simp only [Act.put, List.setIfInBounds_toArray, List.set_cons_zero, List.set_cons_succ]
  refine qstep (o := ⟨some 16, _, _, _, _, _⟩) (v := ?_) (by rfl) (fun wq hSw => ?_) ?_
  rotate_left
  · (have hx9 := hSw.blk HX.out (fun h => h); have x14 := hx9.cell (i := 14) rfl; have hp9 := hSw.blk HP.out (fun h => h); have y0 := hp9.cell (i := 0) rfl; clear hx9 hp9; go_simp; try with_reducible rfl)
  try simp only [Act.put, List.setIfInBounds_toArray, List.set_cons_zero, List.set_cons_succ]
  refine qstep (o := ⟨some 17, _, _, _, _, _⟩) (v := .bool false) (by rfl) (fun wq hSw => ?_) ?_
  · (go_simp; try first | (with_reducible rfl) | (simp; omega) | (intros; omega) | simp [*])
  try simp only [Act.put, List.setIfInBounds_toArray, List.set_cons_zero, List.set_cons_succ]
  refine qstep (o := ⟨some 18, _, _, _, _, _⟩) (v := .bool false) (by rfl) (fun wq hSw => ?_) ?_
  · (go_simp; try first | (with_reducible rfl) | (simp; omega) | (intros; omega) | simp [*])
  try simp only [Act.put, List.setIfInBounds_toArray, List.set_cons_zero, List.set_cons_succ]
  refine qstep (o := ⟨some 19, _, _, _, _, _⟩) (v := ?_) (by rfl) (fun wq hSw => ?_) ?_
  rotate_left
  · (go_simp; try with_reducible rfl)
  try simp only [Act.put, List.setIfInBounds_toArray, List.set_cons_zero, List.set_cons_succ]
  refine qstep (o := ⟨some 20, _, _, _, _, _⟩) (v := ?_) (by rfl) (fun wq hSw => ?_) ?_
  rotate_left
  · (go_simp; try with_reducible rfl)
  try simp only [Act.put, List.setIfInBounds_toArray, List.set_cons_zero, List.set_cons_succ]
  refine qstep (o := ⟨some 21, _, _, _, _, _⟩) (v := ?_) (by rfl) (fun wq hSw => ?_) ?_
  rotate_left
  · (go_simp; try with_reducible rfl)
  try simp only [Act.put, List.setIfInBounds_toArray, List.set_cons_zero, List.set_cons_succ]
  refine qstep (o := ⟨some 22, _, _, _, _, _⟩) (v := ?_) (by rfl) (fun wq hSw => ?_) ?_
  rotate_left
  · (have hx9 := hSw.blk HX.out (fun h => h); have x14 := hx9.cell (i := 14) rfl; have hp9 := hSw.blk HP.out (fun h => h); have y0 := hp9.cell (i := 0) rfl; clear hx9 hp9; go_simp; try with_reducible rfl)
  try simp only [Act.put, List.setIfInBounds_toArray, List.set_cons_zero, List.set_cons_succ]
  refine qstep (o := ⟨some 23, _, _, _, _, _⟩) (v := .bool false) (by rfl) (fun wq hSw => ?_) ?_
  · (go_simp; try first | (with_reducible rfl) | (simp; omega) | (intros; omega) | simp [*])
  try simp only [Act.put, List.setIfInBounds_toArray, List.set_cons_zero, List.set_cons_succ]
  refine qstep (o := ⟨some 24, _, _, _, _, _⟩) (v := .bool false) (by rfl) (fun wq hSw => ?_) ?_
  · (go_simp; try first | (with_reducible rfl) | (simp; omega) | (intros; omega) | simp [*])
  try simp only [Act.put, List.setIfInBounds_toArray, List.set_cons_zero, List.set_cons_succ]
  refine qstep (o := ⟨some 10, _, _, _, _, _⟩) (v := .bool false) (by rfl) (fun wq hSw => ?_) ?_
  · (go_simp; try first | (with_reducible rfl) | (simp; omega) | (intros; omega) | simp [*])
  try simp only [Act.put, List.setIfInBounds_toArray, List.set_cons_zero, List.set_cons_succ]
  refine wpQuiet_nil ?_
  intro wz hHeld
  replace HW := Lib.hid hHeld
  clear hHeld
  go_wp2_with fail
  refine qregion (fun w' => Kept (fun _ => False) W w') (by kernel_rfl) (by kernel_rfl) HW.out.drew ?_
  refine qstep (o := ⟨some 30, _, _, _, _, _⟩) (v := ?_) (by rfl) (fun wq hSw => ?_) ?_
  rotate_left
  · (go_simp; try with_reducible rfl)
  try simp only [Act.put, List.setIfInBounds_toArray, List.set_cons_zero, List.set_cons_succ]
  refine qstep (o := ⟨some 31, _, _, _, _, _⟩) (v := ?_) (by rfl) (fun wq hSw => ?_) ?_
  rotate_left
  · (go_simp; try with_reducible rfl)
  try simp only [Act.put, List.setIfInBounds_toArray, List.set_cons_zero, List.set_cons_succ]
  refine qstep (o := ⟨some 32, _, _, _, _, _⟩) (v := ?_) (by rfl) (fun wq hSw => ?_) ?_
  rotate_left
  · (go_simp; try with_reducible rfl)
  try simp only [Act.put, List.setIfInBounds_toArray, List.set_cons_zero, List.set_cons_succ]
  refine qstep (o := ⟨some 33, _, _, _, _, _⟩) (v := ?_) (by rfl) (fun wq hSw => ?_) ?_
  rotate_left
  · (have hx9 := hSw.blk HX.out (fun h => h); have x13 := hx9.cell (i := 13) rfl; have hp9 := hSw.blk HP.out (fun h => h); have y2 := hp9.cell (i := 2) rfl; have y3 := hp9.cell (i := 3) rfl; clear hx9 hp9; go_simp; try with_reducible rfl)
  try simp only [Act.put, List.setIfInBounds_toArray, List.set_cons_zero, List.set_cons_succ]
  refine qstep (o := ⟨some 34, _, _, _, _, _⟩) (v := ?_) (by rfl) (fun wq hSw => ?_) ?_
  rotate_left
  · (go_simp; try with_reducible rfl)
  try simp only [Act.put, List.setIfInBounds_toArray, List.set_cons_zero, List.set_cons_succ]
  refine qstep (o := ⟨some 35, _, _, _, _, _⟩) (v := ?_) (by rfl) (fun wq hSw => ?_) ?_
  rotate_left
  · (have hx9 := hSw.blk HX.out (fun h => h); have x13 := hx9.cell (i := 13) rfl; have hp9 := hSw.blk HP.out (fun h => h); have y2 := hp9.cell (i := 2) rfl; have y3 := hp9.cell (i := 3) rfl; clear hx9 hp9; go_simp; try with_reducible rfl)
  try simp only [Act.put, List.setIfInBounds_toArray, List.set_cons_zero, List.set_cons_succ]
  refine qstep (o := ⟨some 36, _, _, _, _, _⟩) (v := ?_) (by rfl) (fun wq hSw => ?_) ?_
  rotate_left
  · (go_simp; try with_reducible rfl)
  try simp only [Act.put, List.setIfInBounds_toArray, List.set_cons_zero, List.set_cons_succ]
  refine qstep (o := ⟨some 37, _, _, _, _, _⟩) (v := ?_) (by rfl) (fun wq hSw => ?_) ?_
  rotate_left
  · (have hx9 := hSw.blk HX.out (fun h => h); have x13 := hx9.cell (i := 13) rfl; have hp9 := hSw.blk HP.out (fun h => h); have y2 := hp9.cell (i := 2) rfl; have y3 := hp9.cell (i := 3) rfl; clear hx9 hp9; go_simp; try with_reducible rfl)
  try simp only [Act.put, List.setIfInBounds_toArray, List.set_cons_zero, List.set_cons_succ]
  refine qcall (o := ⟨some 38, _, _, _, _, _⟩) (v := .bool true) (by rfl) (fun wq hSw => ?_) (fun wq hSw => Calls.mono (within_of key hi la true _ hwi) ?_) ?_
  · (go_simp; try with_reducible rfl)
  · rintro e w9 ⟨rfl, rfl⟩; exact ⟨rfl, hSw⟩
  try simp only [Act.put, List.setIfInBounds_toArray, List.set_cons_zero, List.set_cons_succ]
  refine qstep (o := ⟨some 39, _, _, _, _, _⟩) (v := .bool false) (by rfl) (fun wq hSw => ?_) ?_
  · (go_simp; try first | (with_reducible rfl) | (simp; omega) | (intros; omega) | simp [*])
  try simp only [Act.put, List.setIfInBounds_toArray, List.set_cons_zero, List.set_cons_succ]
  refine qstep (o := ⟨some 29, _, _, _, _, _⟩) (v := .bool false) (by rfl) (fun wq hSw => ?_) ?_
  · (go_simp; try first | (with_reducible rfl) | (simp; omega) | (intros; omega) | simp [*])
  try simp only [Act.put, List.setIfInBounds_toArray, List.set_cons_zero, List.set_cons_succ]
  refine wpQuiet_nil ?_
  intro wz hHeld
  replace HW := Lib.hid hHeld
  clear hHeld
  go_wp2_with fail
  refine qregion (fun w' => Kept (fun _ => False) W w') (by kernel_rfl) (by kernel_rfl) HW.out.drew ?_
  refine qstep (o := ⟨some 47, _, _, _, _, _⟩) (v := ?_) (by rfl) (fun wq hSw => ?_) ?_
  rotate_left
  · (go_simp; try with_reducible rfl)
  try simp only [Act.put, List.setIfInBounds_toArray, List.set_cons_zero, List.set_cons_succ]
  refine qstep (o := ⟨some 48, _, _, _, _, _⟩) (v := ?_) (by rfl) (fun wq hSw => ?_) ?_
  rotate_left
  · (have hx9 := hSw.blk HX.out (fun h => h); have x14 := hx9.cell (i := 14) rfl; have hp9 := hSw.blk HP.out (fun h => h); have y0 := hp9.cell (i := 0) rfl; clear hx9 hp9; go_simp; try with_reducible rfl)
  try simp only [Act.put, List.setIfInBounds_toArray, List.set_cons_zero, List.set_cons_succ]
  refine qstep (o := ⟨some 49, _, _, _, _, _⟩) (v := ?_) (by rfl) (fun wq hSw => ?_) ?_
  rotate_left
  · (go_simp; try with_reducible rfl)
  try simp only [Act.put, List.setIfInBounds_toArray, List.set_cons_zero, List.set_cons_succ]
  refine qstep (o := ⟨some 50, _, _, _, _, _⟩) (v := ?_) (by rfl) (fun wq hSw => ?_) ?_
  rotate_left
  · (go_simp; try with_reducible rfl)
  try simp only [Act.put, List.setIfInBounds_toArray, List.set_cons_zero, List.set_cons_succ]
  refine qstep (o := ⟨some 51, _, _, _, _, _⟩) (v := ?_) (by rfl) (fun wq hSw => ?_) ?_
  rotate_left
  · (go_simp; try with_reducible rfl)
  try simp only [Act.put, List.setIfInBounds_toArray, List.set_cons_zero, List.set_cons_succ]
  refine qstep (o := ⟨some 52, _, _, _, _, _⟩) (v := ?_) (by rfl) (fun wq hSw => ?_) ?_
  rotate_left
  · (have hx9 := hSw.blk HX.out (fun h => h); have x14 := hx9.cell (i := 14) rfl; have hp9 := hSw.blk HP.out (fun h => h); have y0 := hp9.cell (i := 0) rfl; clear hx9 hp9; go_simp; try with_reducible rfl)
  try simp only [Act.put, List.setIfInBounds_toArray, List.set_cons_zero, List.set_cons_succ]
  refine qstep (o := ⟨some 53, _, _, _, _, _⟩) (v := .bool true) (by rfl) (fun wq hSw => ?_) ?_
  · (go_simp; try first | (with_reducible rfl) | (simp; omega) | (intros; omega) | simp [*])
  try simp only [Act.put, List.setIfInBounds_toArray, List.set_cons_zero, List.set_cons_succ]
  refine qstep (o := ⟨some 46, _, _, _, _, _⟩) (v := .bool true) (by rfl) (fun wq hSw => ?_) ?_
  · (go_simp; try first | (with_reducible rfl) | (simp; omega) | (intros; omega) | simp [*])
  try simp only [Act.put, List.setIfInBounds_toArray, List.set_cons_zero, List.set_cons_succ]
  refine wpQuiet_nil ?_
  intro wz hHeld
  replace HW := Lib.hid hHeld
  clear hHeld
  go_wp2_with fail
  refine wp_region_held_drew (S := (fun w' => Kept (fun _ => False) W w')) (by kernel_rfl) ?_ (fun hHeld => ?_)
  · exact HW.out.drew
  replace HW := Lib.hid HW.out.drew
  generalize wz.drew = G at *
  refine wpAnyH_take (i := 0) (oi := ⟨some 55, _, _, _, _, _⟩) (v := ?_) rfl (by kernel_rfl) (by kernel_rfl) (by kernel_rfl) (fun _ _ _ h => h) (Or.inl ⟨by rfl, ?_⟩) hHeld ?_
  rotate_left
  · (intro wq hSw; have hx9 := hSw.blk HX.out (fun h => h); have x13 := hx9.cell (i := 13) rfl; have hp9 := hSw.blk HP.out (fun h => h); have y0 := hp9.cell (i := 0) rfl; have y1 := hp9.cell (i := 1) rfl; have y2 := hp9.cell (i := 2) rfl; have y3 := hp9.cell (i := 3) rfl; have y4 := hp9.cell (i := 4) rfl; clear hx9 hp9; go_simp; try with_reducible rfl)
  try simp only [Act.put, List.setIfInBounds_toArray, List.set_cons_zero, List.set_cons_succ]
  refine wpAnyH_take (i := 1) (oi := ⟨some 56, _, _, _, _, _⟩) (v := ?_) rfl (by kernel_rfl) (by kernel_rfl) (by kernel_rfl) (fun _ _ _ h => h) (Or.inl ⟨by rfl, ?_⟩) hHeld ?_
  rotate_left
  · (intro wq hSw; go_simp; try with_reducible rfl)
  try simp only [Act.put, List.setIfInBounds_toArray, List.set_cons_zero, List.set_cons_succ]
  refine wpAnyH_take (i := 2) (oi := ⟨some 57, _, _, _, _, _⟩) (v := ?_) rfl (by kernel_rfl) (by kernel_rfl) (by kernel_rfl) (fun _ _ _ h => h) (Or.inl ⟨by rfl, ?_⟩) hHeld ?_
  rotate_left
  · (intro wq hSw; go_simp; try with_reducible rfl)
  try simp only [Act.put, List.setIfInBounds_toArray, List.set_cons_zero, List.set_cons_succ]
  refine wpAnyH_take (i := 3) (oi := ⟨some 58, _, _, _, _, _⟩) (v := ?_) rfl (by kernel_rfl) (by kernel_rfl) (by kernel_rfl) (fun _ _ _ h => h) (Or.inl ⟨by rfl, ?_⟩) hHeld ?_
  rotate_left
  · (intro wq hSw; go_simp; try with_reducible rfl)
  try simp only [Act.put, List.setIfInBounds_toArray, List.set_cons_zero, List.set_cons_succ]
  refine wpAnyH_take (i := 4) (oi := ⟨some 59, _, _, _, _, _⟩) (v := ?_) rfl (by kernel_rfl) (by kernel_rfl) (by kernel_rfl) (fun _ _ _ h => h) (Or.inl ⟨by rfl, ?_⟩) hHeld ?_
  rotate_left
  · (intro wq hSw; have hx9 := hSw.blk HX.out (fun h => h); have x13 := hx9.cell (i := 13) rfl; have hp9 := hSw.blk HP.out (fun h => h); have y0 := hp9.cell (i := 0) rfl; have y1 := hp9.cell (i := 1) rfl; have y2 := hp9.cell (i := 2) rfl; have y3 := hp9.cell (i := 3) rfl; have y4 := hp9.cell (i := 4) rfl; clear hx9 hp9; go_simp; try with_reducible rfl)
  try simp only [Act.put, List.setIfInBounds_toArray, List.set_cons_zero, List.set_cons_succ]
  refine wpAnyH_ready (rs := [5, 9]) (by kernel_rfl) (by simp) ?_
  refine AllReadyH.cons (o := ⟨some 60, _, _, _, _, _⟩) rfl (fun KK hK => ?_) (AllReadyH.cons (o := ⟨some 4, _, _, _, _, _⟩) rfl (fun KK hK => ?_) (AllReadyH.nil))
  · go_simp
    go_at_call 56
    refine (child_any (lv : Int) A c hi la rt xs key _ n hn h40 (HR.out.keptF HW.out (fun _ _ h => h)) HA.out s r bb hnr).mono ?_; rintro e G ⟨rfl, hB⟩
    replace HW := Lib.hid (HW.out.trans (bkept hB) (fun _ _ h => h))
    try replace HSL := Lib.hid ((bkept hB).blk HSL.out (fun h => h))
    clear hB
    refine hK.out _ _ ?_ (fun hHeld2 => ?_)
    · exact HW.out
    clear hK KK hHeld
    have hHeld := hHeld2
    clear hHeld2
    try simp only [Act.put, List.setIfInBounds_toArray, List.set_cons_zero, List.set_cons_succ]
    refine wpAnyH_take (i := 6) (oi := ⟨some 54, _, _, _, _, _⟩) (v := ?_) rfl (by kernel_rfl) (by kernel_rfl) (by kernel_rfl) (fun _ _ _ h => h) (Or.inl ⟨by rfl, ?_⟩) hHeld ?_
    rotate_left
    · (intro wq hSw; go_simp; try with_reducible rfl)
    try simp only [Act.put, List.setIfInBounds_toArray, List.set_cons_zero, List.set_cons_succ]
    refine wpAnyH_take (i := 7) (oi := ⟨some 61, _, _, _, _, _⟩) (v := ?_) rfl (by kernel_rfl) (by kernel_rfl) (by kernel_rfl) (fun _ _ _ h => h) (Or.inl ⟨by rfl, ?_⟩) hHeld ?_
    rotate_left
    · (intro wq hSw; go_simp; try with_reducible rfl)
    try simp only [Act.put, List.setIfInBounds_toArray, List.set_cons_zero, List.set_cons_succ]
    refine wpAnyH_take (i := 8) (oi := ⟨some 62, _, _, _, _, _⟩) (v := ?_) rfl (by kernel_rfl) (by kernel_rfl) (by kernel_rfl) (fun _ _ _ h => h) (Or.inl ⟨by rfl, ?_⟩) hHeld ?_
    rotate_left
    · (intro wq hSw; go_simp; try with_reducible rfl)
    try simp only [Act.put, List.setIfInBounds_toArray, List.set_cons_zero, List.set_cons_succ]
    refine wpAnyH_ready (rs := [9]) (by kernel_rfl) (by simp) ?_
    refine AllReadyH.cons (o := ⟨some 4, _, _, _, _, _⟩) rfl (fun KK hK => ?_) (AllReadyH.nil)
    go_simp
    have hr1 : W.heap.size ≤ G.heap.size := HW.out.size
    replace HW := Lib.hid (HW.out.alloc (.cells #[.string ⟨#[]⟩, .int .u64 0] 65))
    have HSL := Lib.hid (Blk.new G [.string ⟨#[]⟩, .int .u64 0] 65)
    generalize G.heap.size = r1 at *
    have HR1 := Lib.hid hr1
    clear hr1
    generalize G.alloc (.cells #[.string ⟨#[]⟩, .int .u64 0] 65) = G at *
    refine hK.out _ _ ?_ (fun hHeld2 => ?_)
    · exact HW.out
    clear hK KK hHeld
    have hHeld := hHeld2
    clear hHeld2
    try simp only [Act.put, List.setIfInBounds_toArray, List.set_cons_zero, List.set_cons_succ]
    refine wpAnyH_ready (rs := [10]) (by kernel_rfl) (by simp) ?_
    refine AllReadyH.cons (o := ⟨none, _, _, _, _, _⟩) rfl (fun KK hK => ?_) (AllReadyH.nil)
    have hs9 := HSL.out
    have s0 := hs9.cell (i := 0) rfl
    have s1 := hs9.cell (i := 1) rfl
    have zs0 := hs9.frozen 0
    have zs1 := hs9.frozen 1
    clear hs9
    go_simp
    replace HSL := Lib.hid ((HSL.out.set 0 (.string s)).set 1 (.int .u64 (r : Int)))
    replace HW := Lib.hid ((HW.out.setNew HR1.out 0 (.string s)).setNew HR1.out 1 (.int .u64 (r : Int)))
    clear s0 s1 zs0 zs1
    generalize (G.setCell ⟨r1, 0, none⟩ (.string s)).setCell ⟨r1, 1, none⟩ (.int .u64 (r : Int)) = G at *
    refine hK.out _ _ ?_ (fun hHeld2 => ?_)
    · exact HW.out
    clear hK KK hHeld
    have hHeld := hHeld2
    clear hHeld2
    try simp only [Act.put, List.setIfInBounds_toArray, List.set_cons_zero, List.set_cons_succ]
    refine wpAnyH_take (i := 11) (oi := ⟨some 5, _, _, _, _, _⟩) (v := ?_) rfl (by kernel_rfl) (by kernel_rfl) (by kernel_rfl) (fun _ _ _ h => h) (Or.inl ⟨by rfl, ?_⟩) hHeld ?_
    rotate_left
    · (intro wq hSw; go_simp; try with_reducible rfl)
    try simp only [Act.put, List.setIfInBounds_toArray, List.set_cons_zero, List.set_cons_succ]
    refine wpAnyH_done (by kernel_rfl) ?_ _
    clear hHeld
    go_wp2_with fail
    replace HX := Lib.hid (HW.out.blk HX.out (fun h => h))
    replace HP := Lib.hid (HW.out.blk HP.out (fun h => h))
    replace HK := Lib.hid (HK.out.trans HW.out (fun _ _ h => h))
    replace HR := Lib.hid (HR.out.keptF HW.out (fun _ _ h => h))
    clear HW
    have HW := Lib.hid (Kept.refl (fun _ => False) G)
    refine qtail 5 (fun w' => Kept (fun _ => False) G w') (by kernel_rfl) (by kernel_rfl) HW.out.drew ?_
    simp only [List.take_succ_cons, List.take_zero, List.drop_succ_cons, List.drop_zero]
    refine qstep (o := ⟨some 63, _, _, _, _, _⟩) (v := ?_) (by rfl) (fun wq hSw => ?_) ?_
    rotate_left
    · (go_simp; try with_reducible rfl)
    try simp only [Act.put, List.setIfInBounds_toArray, List.set_cons_zero, List.set_cons_succ]
    refine qstep (o := ⟨some 64, _, _, _, _, _⟩) (v := ?_) (by rfl) (fun wq hSw => ?_) ?_
    rotate_left
    · (go_simp; try with_reducible rfl)
    try simp only [Act.put, List.setIfInBounds_toArray, List.set_cons_zero, List.set_cons_succ]
    refine qstep (o := ⟨some 65, _, _, _, _, _⟩) (v := ?_) (by rfl) (fun wq hSw => ?_) ?_
    rotate_left
    · (go_simp; try with_reducible rfl)
    try simp only [Act.put, List.setIfInBounds_toArray, List.set_cons_zero, List.set_cons_succ]
    refine qstep (o := ⟨some 66, _, _, _, _, _⟩) (v := ?_) (by rfl) (fun wq hSw => ?_) ?_
    rotate_left
    · (go_simp; try with_reducible rfl)
    try simp only [Act.put, List.setIfInBounds_toArray, List.set_cons_zero, List.set_cons_succ]
    refine qstep (o := ⟨some 67, _, _, _, _, _⟩) (v := ?_) (by rfl) (fun wq hSw => ?_) ?_
    rotate_left
    · (have hx9 := hSw.blk HX.out (fun h => h); have hp9 := hSw.blk HP.out (fun h => h); clear hx9 hp9; have hs9 := hSw.blk HSL.out (fun h => h); have s1 := hs9.cell (i := 1) rfl; clear hs9; go_simp; try with_reducible rfl)
    try simp only [Act.put, List.setIfInBounds_toArray, List.set_cons_zero, List.set_cons_succ]
    refine wpQuiet_nil ?_
    intro wz hHeld
    replace HW := Lib.hid hHeld
    clear hHeld
    go_wp2_with fail
    refine (goTo_some F h4 h6 fb fd hd x 79 nid rp ph [.string key, .int .i64 (lvl : Int)] _ (HW.out.blk HX.out (fun h => h)) r hn0).mono ?_; rintro e w3 ⟨q, rfl, hB3, hC3, hq3, hK3⟩
    have HB3 := Lib.hid hB3
    have HC3 := Lib.hid hC3
    have HQ := Lib.hid (Nat.le_trans (Nat.le_trans HK.out.size HW.out.size) hq3)
    have HK3 := Lib.hid (((HK.out.trans HW.out (fun _ _ h => h)).mono (T := fun i => i = x) (fun _ h => h.elim)).trans hK3 (fun _ _ h => h))
    clear hB3 hC3 hq3 hK3
    go_wp2
    go_end0
    exact ⟨q, rfl, HB3.out, HC3.out, HQ.out, HK3.out⟩
  · go_simp
    have hr1 : W.heap.size ≤ G.heap.size := HW.out.size
    replace HW := Lib.hid (HW.out.alloc (.cells #[.string ⟨#[]⟩, .int .u64 0] 65))
    have HSL := Lib.hid (Blk.new G [.string ⟨#[]⟩, .int .u64 0] 65)
    generalize G.heap.size = r1 at *
    have HR1 := Lib.hid hr1
    clear hr1
    generalize G.alloc (.cells #[.string ⟨#[]⟩, .int .u64 0] 65) = G at *
    refine hK.out _ _ ?_ (fun hHeld2 => ?_)
    · exact HW.out
    clear hK KK hHeld
    have hHeld := hHeld2
    clear hHeld2
    try simp only [Act.put, List.setIfInBounds_toArray, List.set_cons_zero, List.set_cons_succ]
    refine wpAnyH_ready (rs := [5]) (by kernel_rfl) (by simp) ?_
    refine AllReadyH.cons (o := ⟨some 60, _, _, _, _, _⟩) rfl (fun KK hK => ?_) (AllReadyH.nil)
    go_simp
    go_at_call 56
    refine (child_any (lv : Int) A c hi la rt xs key _ n hn h40 (HR.out.keptF HW.out (fun _ _ h => h)) HA.out s r bb hnr).mono ?_; rintro e G ⟨rfl, hB⟩
    replace HW := Lib.hid (HW.out.trans (bkept hB) (fun _ _ h => h))
    try replace HSL := Lib.hid ((bkept hB).blk HSL.out (fun h => h))
    clear hB
    refine hK.out _ _ ?_ (fun hHeld2 => ?_)
    · exact HW.out
    clear hK KK hHeld
    have hHeld := hHeld2
    clear hHeld2
    try simp only [Act.put, List.setIfInBounds_toArray, List.set_cons_zero, List.set_cons_succ]
    refine wpAnyH_take (i := 6) (oi := ⟨some 54, _, _, _, _, _⟩) (v := ?_) rfl (by kernel_rfl) (by kernel_rfl) (by kernel_rfl) (fun _ _ _ h => h) (Or.inl ⟨by rfl, ?_⟩) hHeld ?_
    rotate_left
    · (intro wq hSw; go_simp; try with_reducible rfl)
    try simp only [Act.put, List.setIfInBounds_toArray, List.set_cons_zero, List.set_cons_succ]
    refine wpAnyH_take (i := 7) (oi := ⟨some 61, _, _, _, _, _⟩) (v := ?_) rfl (by kernel_rfl) (by kernel_rfl) (by kernel_rfl) (fun _ _ _ h => h) (Or.inl ⟨by rfl, ?_⟩) hHeld ?_
    rotate_left
    · (intro wq hSw; go_simp; try with_reducible rfl)
    try simp only [Act.put, List.setIfInBounds_toArray, List.set_cons_zero, List.set_cons_succ]
    refine wpAnyH_take (i := 8) (oi := ⟨some 62, _, _, _, _, _⟩) (v := ?_) rfl (by kernel_rfl) (by kernel_rfl) (by kernel_rfl) (fun _ _ _ h => h) (Or.inl ⟨by rfl, ?_⟩) hHeld ?_
    rotate_left
    · (intro wq hSw; go_simp; try with_reducible rfl)
    try simp only [Act.put, List.setIfInBounds_toArray, List.set_cons_zero, List.set_cons_succ]
    refine wpAnyH_ready (rs := [10]) (by kernel_rfl) (by simp) ?_
    refine AllReadyH.cons (o := ⟨none, _, _, _, _, _⟩) rfl (fun KK hK => ?_) (AllReadyH.nil)
    have hs9 := HSL.out
    have s0 := hs9.cell (i := 0) rfl
    have s1 := hs9.cell (i := 1) rfl
    have zs0 := hs9.frozen 0
    have zs1 := hs9.frozen 1
    clear hs9
    go_simp
    replace HSL := Lib.hid ((HSL.out.set 0 (.string s)).set 1 (.int .u64 (r : Int)))
    replace HW := Lib.hid ((HW.out.setNew HR1.out 0 (.string s)).setNew HR1.out 1 (.int .u64 (r : Int)))
    clear s0 s1 zs0 zs1
    generalize (G.setCell ⟨r1, 0, none⟩ (.string s)).setCell ⟨r1, 1, none⟩ (.int .u64 (r : Int)) = G at *
    refine hK.out _ _ ?_ (fun hHeld2 => ?_)
    · exact HW.out
    clear hK KK hHeld
    have hHeld := hHeld2
    clear hHeld2
    try simp only [Act.put, List.setIfInBounds_toArray, List.set_cons_zero, List.set_cons_succ]
    refine wpAnyH_take (i := 11) (oi := ⟨some 5, _, _, _, _, _⟩) (v := ?_) rfl (by kernel_rfl) (by kernel_rfl) (by kernel_rfl) (fun _ _ _ h => h) (Or.inl ⟨by rfl, ?_⟩) hHeld ?_
    rotate_left
    · (intro wq hSw; go_simp; try with_reducible rfl)
    try simp only [Act.put, List.setIfInBounds_toArray, List.set_cons_zero, List.set_cons_succ]
    refine wpAnyH_done (by kernel_rfl) ?_ _
    clear hHeld
    go_wp2_with fail
    replace HX := Lib.hid (HW.out.blk HX.out (fun h => h))
    replace HP := Lib.hid (HW.out.blk HP.out (fun h => h))
    replace HK := Lib.hid (HK.out.trans HW.out (fun _ _ h => h))
    replace HR := Lib.hid (HR.out.keptF HW.out (fun _ _ h => h))
    clear HW
    have HW := Lib.hid (Kept.refl (fun _ => False) G)
    refine qtail 5 (fun w' => Kept (fun _ => False) G w') (by kernel_rfl) (by kernel_rfl) HW.out.drew ?_
    simp only [List.take_succ_cons, List.take_zero, List.drop_succ_cons, List.drop_zero]
    refine qstep (o := ⟨some 63, _, _, _, _, _⟩) (v := ?_) (by rfl) (fun wq hSw => ?_) ?_
    rotate_left
    · (go_simp; try with_reducible rfl)
    try simp only [Act.put, List.setIfInBounds_toArray, List.set_cons_zero, List.set_cons_succ]
    refine qstep (o := ⟨some 64, _, _, _, _, _⟩) (v := ?_) (by rfl) (fun wq hSw => ?_) ?_
    rotate_left
    · (go_simp; try with_reducible rfl)
    try simp only [Act.put, List.setIfInBounds_toArray, List.set_cons_zero, List.set_cons_succ]
    refine qstep (o := ⟨some 65, _, _, _, _, _⟩) (v := ?_) (by rfl) (fun wq hSw => ?_) ?_
    rotate_left
    · (go_simp; try with_reducible rfl)
    try simp only [Act.put, List.setIfInBounds_toArray, List.set_cons_zero, List.set_cons_succ]
    refine qstep (o := ⟨some 66, _, _, _, _, _⟩) (v := ?_) (by rfl) (fun wq hSw => ?_) ?_
    rotate_left
    · (go_simp; try with_reducible rfl)
    try simp only [Act.put, List.setIfInBounds_toArray, List.set_cons_zero, List.set_cons_succ]
    refine qstep (o := ⟨some 67, _, _, _, _, _⟩) (v := ?_) (by rfl) (fun wq hSw => ?_) ?_
    rotate_left
    · (have hx9 := hSw.blk HX.out (fun h => h); have hp9 := hSw.blk HP.out (fun h => h); clear hx9 hp9; have hs9 := hSw.blk HSL.out (fun h => h); have s1 := hs9.cell (i := 1) rfl; clear hs9; go_simp; try with_reducible rfl)
    try simp only [Act.put, List.setIfInBounds_toArray, List.set_cons_zero, List.set_cons_succ]
    refine wpQuiet_nil ?_
    intro wz hHeld
    replace HW := Lib.hid hHeld
    clear hHeld
    go_wp2_with fail
    refine (goTo_some F h4 h6 fb fd hd x 79 nid rp ph [.string key, .int .i64 (lvl : Int)] _ (HW.out.blk HX.out (fun h => h)) r hn0).mono ?_; rintro e w3 ⟨q, rfl, hB3, hC3, hq3, hK3⟩
    have HB3 := Lib.hid hB3
    have HC3 := Lib.hid hC3
    have HQ := Lib.hid (Nat.le_trans (Nat.le_trans HK.out.size HW.out.size) hq3)
    have HK3 := Lib.hid (((HK.out.trans HW.out (fun _ _ h => h)).mono (T := fun i => i = x) (fun _ h => h.elim)).trans hK3 (fun _ _ h => h))
    clear hB3 hC3 hq3 hK3
    go_wp2
    go_end0
    exact ⟨q, rfl, HB3.out, HC3.out, HQ.out, HK3.out⟩

set_option maxHeartbeats 4000000 in
theorem fturn_here (F : Nat) (h4 : 4 ≤ F) (h6 : F ≤ 6) (fb fd : Int) (hd : Reach3 10 fb fd) (x nid : Nat) (rp : Value) (ph : Int) (key : ByteArray) (lvl : Nat) (w : World) (h : Blk w x 79 (wkv F fb fd nid (rp) ph [.string key, .int .i64 (lvl : Int)])) (lv : Nat) (A : Option Addr) (c : Nat) (hi : ByteArray) (la : Bool) (rt : Nat) (xs : List Sl) (n : Nat) (hn : xs.length = n) (h40 : n ≤ 1099511627776) (hR : Rs w A c xs) (ha : Asc xs) (heq : lvl = lv) (hwi : (la || ltB key.toList hi.toList) = true) :
    Calls Try.prog 33 #[.pointer (some ⟨x, 0, none⟩), .agg #[.int .i64 (lv : Int), .slice A n c, .string hi, .bool la, .int .u64 (rt : Int)]] w fun e w' => e = .returned (.tuple #[]) ∧ Blk w' x 79 (wkv F fb fd nid (rp) 2 [.string key, .int .i64 (lvl : Int)]) ∧ Kept (fun i => i = x) w w' := by
  have p1 : decide ((lv : Int) < (lvl : Int)) = false := decide_eq_false (by omega)
  have p1' : ¬ (lv : Int) < (lvl : Int) := by omega
  have p2 : decide ((lvl : Int) < 0) = false := decide_eq_false (by omega)
  have p3 : decide ((lvl : Int) < (lv : Int)) = false := decide_eq_false (by omega)
  have p4 : lv ≤ lvl := by omega
  clear heq
  have HX := Lib.hid h
  have HR := Lib.hid hR
  have HA := Lib.hid ha
  clear h hR ha
  go_enter Try.func33, Try.ntmps33
  go_wp2_with fail
  have hal := (Kept.refl (fun _ => False) w).alloc (.cells #[.int .i64 (lv : Int), .slice A n c, .string hi, .bool la, .int .u64 (rt : Int)] 43)
  have HK := Lib.hid hal
  have HP := Lib.hid (Blk.new w [.int .i64 (lv : Int), .slice A n c, .string hi, .bool la, .int .u64 (rt : Int)] 43)
  replace HX := Lib.hid (hal.blk HX.out (fun h => h))
  replace HR := Lib.hid (HR.out.keptF hal (fun _ _ h => h))
  clear hal
  generalize hr0 : w.heap.size = r0 at HP ⊢
  have HR0 := Lib.hid hr0
  clear hr0
  generalize w.alloc (.cells #[.int .i64 (lv : Int), .slice A n c, .string hi, .bool la, .int .u64 (rt : Int)] 43) = W at *
  have HW := Lib.hid (Kept.refl (fun _ => False) W)
  refine qregion (fun w' => Kept (fun _ => False) W w') (by kernel_rfl) (by kernel_rfl) HW.out.drew ?_
  refine qstep (o := ⟨some 11, _, _, _, _, _⟩) (v := ?_) (by rfl) (fun wq hSw => ?_) ?_
  rotate_left
  · (go_simp; try with_reducible rfl)
  try simp only [Act.put, List.setIfInBounds_toArray, List.set_cons_zero, List.set_cons_succ]
  refine qstep (o := ⟨some 12, _, _, _, _, _⟩) (v := ?_) (by rfl) (fun wq hSw => ?_) ?_
  rotate_left
  · (have hx9 := hSw.blk HX.out (fun h => h); have x14 := hx9.cell (i := 14) rfl; have hp9 := hSw.blk HP.out (fun h => h); have y0 := hp9.cell (i := 0) rfl; clear hx9 hp9; go_simp; try with_reducible rfl)
  try simp only [Act.put, List.setIfInBounds_toArray, List.set_cons_zero, List.set_cons_succ]
  refine qstep (o := ⟨some 13, _, _, _, _, _⟩) (v := ?_) (by rfl) (fun wq hSw => ?_) ?_
  rotate_left
  · (go_simp; try with_reducible rfl)
  try simp only [Act.put, List.setIfInBounds_toArray, List.set_cons_zero, List.set_cons_succ]
  refine qstep (o := ⟨some 14, _, _, _, _, _⟩) (v := ?_) (by rfl) (fun wq hSw => ?_) ?_
  rotate_left
  · (go_simp; try with_reducible rfl)
  try simp only [Act.put, List.setIfInBounds_toArray, List.set_cons_zero, List.set_cons_succ]
  refine qstep (o := ⟨some 15, _, _, _, _, _⟩) (v := ?_) (by rfl) (fun wq hSw => ?_) ?_
  rotate_left
  · (go_simp; try with_reducible rfl)
  try simp only [Act.put, List.setIfInBounds_toArray, List.set_cons_zero, List.set_cons_succ]
  refine qstep (o := ⟨some 16, _, _, _, _, _⟩) (v := ?_) (by rfl) (fun wq hSw => ?_) ?_
  rotate_left
  · (have hx9 := hSw.blk HX.out (fun h => h); have x14 := hx9.cell (i := 14) rfl; have hp9 := hSw.blk HP.out (fun h => h); have y0 := hp9.cell (i := 0) rfl; clear hx9 hp9; go_simp; try with_reducible rfl)
  try simp only [Act.put, List.setIfInBounds_toArray, List.set_cons_zero, List.set_cons_succ]
  refine qstep (o := ⟨some 17, _, _, _, _, _⟩) (v := .bool false) (by rfl) (fun wq hSw => ?_) ?_
  · (go_simp; try first | (with_reducible rfl) | (simp; omega) | (intros; omega) | simp [*])
  try simp only [Act.put, List.setIfInBounds_toArray, List.set_cons_zero, List.set_cons_succ]
  refine qstep (o := ⟨some 18, _, _, _, _, _⟩) (v := .bool false) (by rfl) (fun wq hSw => ?_) ?_
  · (go_simp; try first | (with_reducible rfl) | (simp; omega) | (intros; omega) | simp [*])
  try simp only [Act.put, List.setIfInBounds_toArray, List.set_cons_zero, List.set_cons_succ]
  refine qstep (o := ⟨some 19, _, _, _, _, _⟩) (v := ?_) (by rfl) (fun wq hSw => ?_) ?_
  rotate_left
  · (go_simp; try with_reducible rfl)
  try simp only [Act.put, List.setIfInBounds_toArray, List.set_cons_zero, List.set_cons_succ]
  refine qstep (o := ⟨some 20, _, _, _, _, _⟩) (v := ?_) (by rfl) (fun wq hSw => ?_) ?_
  rotate_left
  · (go_simp; try with_reducible rfl)
  try simp only [Act.put, List.setIfInBounds_toArray, List.set_cons_zero, List.set_cons_succ]
  refine qstep (o := ⟨some 21, _, _, _, _, _⟩) (v := ?_) (by rfl) (fun wq hSw => ?_) ?_
  rotate_left
  · (go_simp; try with_reducible rfl)
  try simp only [Act.put, List.setIfInBounds_toArray, List.set_cons_zero, List.set_cons_succ]
  refine qstep (o := ⟨some 22, _, _, _, _, _⟩) (v := ?_) (by rfl) (fun wq hSw => ?_) ?_
  rotate_left
  · (have hx9 := hSw.blk HX.out (fun h => h); have x14 := hx9.cell (i := 14) rfl; have hp9 := hSw.blk HP.out (fun h => h); have y0 := hp9.cell (i := 0) rfl; clear hx9 hp9; go_simp; try with_reducible rfl)
  try simp only [Act.put, List.setIfInBounds_toArray, List.set_cons_zero, List.set_cons_succ]
  refine qstep (o := ⟨some 23, _, _, _, _, _⟩) (v := .bool false) (by rfl) (fun wq hSw => ?_) ?_
  · (go_simp; try first | (with_reducible rfl) | (simp; omega) | (intros; omega) | simp [*])
  try simp only [Act.put, List.setIfInBounds_toArray, List.set_cons_zero, List.set_cons_succ]
  refine qstep (o := ⟨some 24, _, _, _, _, _⟩) (v := .bool false) (by rfl) (fun wq hSw => ?_) ?_
  · (go_simp; try first | (with_reducible rfl) | (simp; omega) | (intros; omega) | simp [*])
  try simp only [Act.put, List.setIfInBounds_toArray, List.set_cons_zero, List.set_cons_succ]
  refine qstep (o := ⟨some 10, _, _, _, _, _⟩) (v := .bool false) (by rfl) (fun wq hSw => ?_) ?_
  · (go_simp; try first | (with_reducible rfl) | (simp; omega) | (intros; omega) | simp [*])
  try simp only [Act.put, List.setIfInBounds_toArray, List.set_cons_zero, List.set_cons_succ]
  refine wpQuiet_nil ?_
  intro wz hHeld
  replace HW := Lib.hid hHeld
  clear hHeld
  go_wp2_with fail
  refine qregion (fun w' => Kept (fun _ => False) W w') (by kernel_rfl) (by kernel_rfl) HW.out.drew ?_
  refine qstep (o := ⟨some 30, _, _, _, _, _⟩) (v := ?_) (by rfl) (fun wq hSw => ?_) ?_
  rotate_left
  · (go_simp; try with_reducible rfl)
  try simp only [Act.put, List.setIfInBounds_toArray, List.set_cons_zero, List.set_cons_succ]
  refine qstep (o := ⟨some 31, _, _, _, _, _⟩) (v := ?_) (by rfl) (fun wq hSw => ?_) ?_
  rotate_left
  · (go_simp; try with_reducible rfl)
  try simp only [Act.put, List.setIfInBounds_toArray, List.set_cons_zero, List.set_cons_succ]
  refine qstep (o := ⟨some 32, _, _, _, _, _⟩) (v := ?_) (by rfl) (fun wq hSw => ?_) ?_
  rotate_left
  · (go_simp; try with_reducible rfl)
  try simp only [Act.put, List.setIfInBounds_toArray, List.set_cons_zero, List.set_cons_succ]
  refine qstep (o := ⟨some 33, _, _, _, _, _⟩) (v := ?_) (by rfl) (fun wq hSw => ?_) ?_
  rotate_left
  · (have hx9 := hSw.blk HX.out (fun h => h); have x13 := hx9.cell (i := 13) rfl; have hp9 := hSw.blk HP.out (fun h => h); have y2 := hp9.cell (i := 2) rfl; have y3 := hp9.cell (i := 3) rfl; clear hx9 hp9; go_simp; try with_reducible rfl)
  try simp only [Act.put, List.setIfInBounds_toArray, List.set_cons_zero, List.set_cons_succ]
  refine qstep (o := ⟨some 34, _, _, _, _, _⟩) (v := ?_) (by rfl) (fun wq hSw => ?_) ?_
  rotate_left
  · (go_simp; try with_reducible rfl)
  try simp only [Act.put, List.setIfInBounds_toArray, List.set_cons_zero, List.set_cons_succ]
  refine qstep (o := ⟨some 35, _, _, _, _, _⟩) (v := ?_) (by rfl) (fun wq hSw => ?_) ?_
  rotate_left
  · (have hx9 := hSw.blk HX.out (fun h => h); have x13 := hx9.cell (i := 13) rfl; have hp9 := hSw.blk HP.out (fun h => h); have y2 := hp9.cell (i := 2) rfl; have y3 := hp9.cell (i := 3) rfl; clear hx9 hp9; go_simp; try with_reducible rfl)
  try simp only [Act.put, List.setIfInBounds_toArray, List.set_cons_zero, List.set_cons_succ]
  refine qstep (o := ⟨some 36, _, _, _, _, _⟩) (v := ?_) (by rfl) (fun wq hSw => ?_) ?_
  rotate_left
  · (go_simp; try with_reducible rfl)
  try simp only [Act.put, List.setIfInBounds_toArray, List.set_cons_zero, List.set_cons_succ]
  refine qstep (o := ⟨some 37, _, _, _, _, _⟩) (v := ?_) (by rfl) (fun wq hSw => ?_) ?_
  rotate_left
  · (have hx9 := hSw.blk HX.out (fun h => h); have x13 := hx9.cell (i := 13) rfl; have hp9 := hSw.blk HP.out (fun h => h); have y2 := hp9.cell (i := 2) rfl; have y3 := hp9.cell (i := 3) rfl; clear hx9 hp9; go_simp; try with_reducible rfl)
  try simp only [Act.put, List.setIfInBounds_toArray, List.set_cons_zero, List.set_cons_succ]
  refine qcall (o := ⟨some 38, _, _, _, _, _⟩) (v := .bool true) (by rfl) (fun wq hSw => ?_) (fun wq hSw => Calls.mono (within_of key hi la true _ hwi) ?_) ?_
  · (go_simp; try with_reducible rfl)
  · rintro e w9 ⟨rfl, rfl⟩; exact ⟨rfl, hSw⟩
  try simp only [Act.put, List.setIfInBounds_toArray, List.set_cons_zero, List.set_cons_succ]
  refine qstep (o := ⟨some 39, _, _, _, _, _⟩) (v := .bool false) (by rfl) (fun wq hSw => ?_) ?_
  · (go_simp; try first | (with_reducible rfl) | (simp; omega) | (intros; omega) | simp [*])
  try simp only [Act.put, List.setIfInBounds_toArray, List.set_cons_zero, List.set_cons_succ]
  refine qstep (o := ⟨some 29, _, _, _, _, _⟩) (v := .bool false) (by rfl) (fun wq hSw => ?_) ?_
  · (go_simp; try first | (with_reducible rfl) | (simp; omega) | (intros; omega) | simp [*])
  try simp only [Act.put, List.setIfInBounds_toArray, List.set_cons_zero, List.set_cons_succ]
  refine wpQuiet_nil ?_
  intro wz hHeld
  replace HW := Lib.hid hHeld
  clear hHeld
  go_wp2_with fail
  refine qregion (fun w' => Kept (fun _ => False) W w') (by kernel_rfl) (by kernel_rfl) HW.out.drew ?_
  refine qstep (o := ⟨some 47, _, _, _, _, _⟩) (v := ?_) (by rfl) (fun wq hSw => ?_) ?_
  rotate_left
  · (go_simp; try with_reducible rfl)
  try simp only [Act.put, List.setIfInBounds_toArray, List.set_cons_zero, List.set_cons_succ]
  refine qstep (o := ⟨some 48, _, _, _, _, _⟩) (v := ?_) (by rfl) (fun wq hSw => ?_) ?_
  rotate_left
  · (have hx9 := hSw.blk HX.out (fun h => h); have x14 := hx9.cell (i := 14) rfl; have hp9 := hSw.blk HP.out (fun h => h); have y0 := hp9.cell (i := 0) rfl; clear hx9 hp9; go_simp; try with_reducible rfl)
  try simp only [Act.put, List.setIfInBounds_toArray, List.set_cons_zero, List.set_cons_succ]
  refine qstep (o := ⟨some 49, _, _, _, _, _⟩) (v := ?_) (by rfl) (fun wq hSw => ?_) ?_
  rotate_left
  · (go_simp; try with_reducible rfl)
  try simp only [Act.put, List.setIfInBounds_toArray, List.set_cons_zero, List.set_cons_succ]
  refine qstep (o := ⟨some 50, _, _, _, _, _⟩) (v := ?_) (by rfl) (fun wq hSw => ?_) ?_
  rotate_left
  · (go_simp; try with_reducible rfl)
  try simp only [Act.put, List.setIfInBounds_toArray, List.set_cons_zero, List.set_cons_succ]
  refine qstep (o := ⟨some 51, _, _, _, _, _⟩) (v := ?_) (by rfl) (fun wq hSw => ?_) ?_
  rotate_left
  · (go_simp; try with_reducible rfl)
  try simp only [Act.put, List.setIfInBounds_toArray, List.set_cons_zero, List.set_cons_succ]
  refine qstep (o := ⟨some 52, _, _, _, _, _⟩) (v := ?_) (by rfl) (fun wq hSw => ?_) ?_
  rotate_left
  · (have hx9 := hSw.blk HX.out (fun h => h); have x14 := hx9.cell (i := 14) rfl; have hp9 := hSw.blk HP.out (fun h => h); have y0 := hp9.cell (i := 0) rfl; clear hx9 hp9; go_simp; try with_reducible rfl)
  try simp only [Act.put, List.setIfInBounds_toArray, List.set_cons_zero, List.set_cons_succ]
  refine qstep (o := ⟨some 53, _, _, _, _, _⟩) (v := .bool false) (by rfl) (fun wq hSw => ?_) ?_
  · (go_simp; try first | (with_reducible rfl) | (simp; omega) | (intros; omega) | simp [*])
  try simp only [Act.put, List.setIfInBounds_toArray, List.set_cons_zero, List.set_cons_succ]
  refine qstep (o := ⟨some 46, _, _, _, _, _⟩) (v := .bool false) (by rfl) (fun wq hSw => ?_) ?_
  · (go_simp; try first | (with_reducible rfl) | (simp; omega) | (intros; omega) | simp [*])
  try simp only [Act.put, List.setIfInBounds_toArray, List.set_cons_zero, List.set_cons_succ]
  refine wpQuiet_nil ?_
  intro wz hHeld
  replace HW := Lib.hid hHeld
  clear hHeld
  go_wp2_with fail
  refine (arrive_any F fb fd x 79 nid rp ph [.string key, .int .i64 (lvl : Int)] _ (HW.out.blk HX.out (fun h => h))).mono ?_; rintro e w3 ⟨rfl, hB3, hK3⟩
  have HB3 := Lib.hid hB3
  have HK3 := Lib.hid (((HK.out.trans HW.out (fun _ _ h => h)).mono (T := fun i => i = x) (fun _ h => h.elim)).trans hK3 (fun _ _ h => h))
  clear hB3 hK3
  go_wp2
  go_end0
  exact ⟨rfl, HB3.out, HK3.out⟩

end Go.Proofs.Ytboieccjikcdiaa
