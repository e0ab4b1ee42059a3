/-
  Package leaflock: a Lock's step phase by phase, with what the machine inside does as a hypothesis; NewLock and Held. Condition: the kit's small configurations.
-/
import Derived.Test.YtkpbbnpfdighjaaGreatLkFind
import Derived.Test.YtkpbbnpfdighjaaGreatLkLatch
namespace Go.Proofs.YtkpbbnpfdighjaaGreat
open Go.RowKit Go.Deep Plain
set_option linter.unusedVariables false

/-- The cells of a Lock. -/
def lkv (F : Nat) (fb fd : Int) (key : ByteArray) (ph : Int) (fp : Value) (nid : Nat) (ap op rp : Value) : List Value :=
  [.int .i64 1, .int .i64 2, .int .i64 100, .int .i64 100, .int .i64 200, .int .i64 (F : Int), .int .u64 1000, .int .i64 10, .int .i64 fb, .int .i64 fd, .string key, .int .i64 ph, fp, .int .u64 (nid : Int), ap, op, rp]
theorem nla_out {F n : Nat} (h : n = 0 ∨ 100 < n) : nla F n = -1 := by
  unfold nla nodeAt; rw [if_neg (by omega)]
theorem nla_in {F n : Nat} (h1 : 1 ≤ n) (h2 : n ≤ 100) : 0 ≤ nla F n := by
  rw [nla_eq h1 h2]
  have h : 0 ≤ ((n : Int) - 1) * (F : Int) := Int.mul_nonneg (by omega) (by omega)
  omega
set_option maxHeartbeats 2000000 in
theorem newLock_any (F : Nat) (fb fd : Int) (key : ByteArray) (lvl : Nat) (w : World) :
    Calls Tryz.prog 16 #[.agg #[.int .i64 1, .int .i64 2, .int .i64 100, .int .i64 100, .int .i64 200, .int .i64 (F : Int), .int .u64 1000, .int .i64 10, .int .i64 fb, .int .i64 fd], .string key, .int .i64 (lvl : Int)] w fun e w' => ∃ x xf, e = .returned (.pointer (some ⟨x, 0, none⟩)) ∧ w.heap.size ≤ x ∧ w.heap.size ≤ xf ∧ xf ≠ x ∧ Blk w' x 98 (lkv F fb fd key 0 (.pointer (some ⟨xf, 0, none⟩)) 0 (.pointer none) (.pointer none) (.pointer none)) ∧ Blk w' xf 126 (wkv F fb fd 0 (.pointer none) 0 (tlF key lvl ⟨#[]⟩)) ∧ Kept (fun _ => False) w w' := by
  go_enter Tryz.func16, Tryz.ntmps16
  go_upto_region 1 with fail
  have hal := (Kept.refl (fun _ => False) w).alloc (.cells #[.int .i64 1, .int .i64 2, .int .i64 100, .int .i64 100, .int .i64 200, .int .i64 (F : Int), .int .u64 1000, .int .i64 10, .int .i64 fb, .int .i64 fd] 29)
  have HK1 := Lib.hid hal
  have HL := Lib.hid (Blk.new w [.int .i64 1, .int .i64 2, .int .i64 100, .int .i64 100, .int .i64 200, .int .i64 (F : Int), .int .u64 1000, .int .i64 10, .int .i64 fb, .int .i64 fd] 29)
  have hsz : w.heap.size < (w.alloc (.cells #[.int .i64 1, .int .i64 2, .int .i64 100, .int .i64 100, .int .i64 200, .int .i64 (F : Int), .int .u64 1000, .int .i64 10, .int .i64 fb, .int .i64 fd] 29)).heap.size := by rw [nblk_alloc]; omega
  clear hal
  generalize w.alloc (.cells #[.int .i64 1, .int .i64 2, .int .i64 100, .int .i64 100, .int .i64 200, .int .i64 (F : Int), .int .u64 1000, .int .i64 10, .int .i64 fb, .int .i64 fd] 29) = W at *
  generalize hr0 : w.heap.size = r0 at *
  have HR0 := Lib.hid hr0
  clear hr0
  refine wp_region_held_drew (S := (fun w' => Kept (fun _ => False) W w')) (by kernel_rfl) ?_ (fun hHeld => ?_)
  · exact (Kept.refl _ _).drew
  have HW := Lib.hid ((Kept.refl (fun _ => False) W).drew)
  generalize W.drew = G at *
  refine wpAnyH_take (i := 0) (oi := ⟨some 7, _, _, _, _, _⟩) (v := ?_) rfl (by kernel_rfl) (by kernel_rfl) (by kernel_rfl) (fun _ _ _ h => h) (Or.inl ⟨by rfl, ?_⟩) hHeld ?_
  rotate_left
  · (intro wq hSw; have hb9 := hSw.blk HL.out (fun h => h); have x0 := hb9.cell (i := 0) rfl; have x1 := hb9.cell (i := 1) rfl; have x2 := hb9.cell (i := 2) rfl; have x3 := hb9.cell (i := 3) rfl; have x4 := hb9.cell (i := 4) rfl; have x5 := hb9.cell (i := 5) rfl; have x6 := hb9.cell (i := 6) rfl; have x7 := hb9.cell (i := 7) rfl; have x8 := hb9.cell (i := 8) rfl; have x9 := hb9.cell (i := 9) rfl; clear hb9; go_simp; try with_reducible rfl)
  try simp only [Act.put, List.setIfInBounds_toArray, List.set_cons_zero, List.set_cons_succ]
  refine wpAnyH_take (i := 1) (oi := ⟨some 8, _, _, _, _, _⟩) (v := ?_) rfl (by kernel_rfl) (by kernel_rfl) (by kernel_rfl) (fun _ _ _ h => h) (Or.inl ⟨by rfl, ?_⟩) hHeld ?_
  rotate_left
  · (intro wq hSw; go_simp; try with_reducible rfl)
  try simp only [Act.put, List.setIfInBounds_toArray, List.set_cons_zero, List.set_cons_succ]
  refine wpAnyH_take (i := 2) (oi := ⟨some 9, _, _, _, _, _⟩) (v := ?_) rfl (by kernel_rfl) (by kernel_rfl) (by kernel_rfl) (fun _ _ _ h => h) (Or.inl ⟨by rfl, ?_⟩) hHeld ?_
  rotate_left
  · (intro wq hSw; have hb9 := hSw.blk HL.out (fun h => h); have x0 := hb9.cell (i := 0) rfl; have x1 := hb9.cell (i := 1) rfl; have x2 := hb9.cell (i := 2) rfl; have x3 := hb9.cell (i := 3) rfl; have x4 := hb9.cell (i := 4) rfl; have x5 := hb9.cell (i := 5) rfl; have x6 := hb9.cell (i := 6) rfl; have x7 := hb9.cell (i := 7) rfl; have x8 := hb9.cell (i := 8) rfl; have x9 := hb9.cell (i := 9) rfl; clear hb9; go_simp; try with_reducible rfl)
  try simp only [Act.put, List.setIfInBounds_toArray, List.set_cons_zero, List.set_cons_succ]
  refine wpAnyH_take (i := 3) (oi := ⟨some 10, _, _, _, _, _⟩) (v := ?_) rfl (by kernel_rfl) (by kernel_rfl) (by kernel_rfl) (fun _ _ _ h => h) (Or.inl ⟨by rfl, ?_⟩) hHeld ?_
  rotate_left
  · (intro wq hSw; go_simp; try with_reducible rfl)
  try simp only [Act.put, List.setIfInBounds_toArray, List.set_cons_zero, List.set_cons_succ]
  refine wpAnyH_take (i := 4) (oi := ⟨some 11, _, _, _, _, _⟩) (v := ?_) rfl (by kernel_rfl) (by kernel_rfl) (by kernel_rfl) (fun _ _ _ h => h) (Or.inl ⟨by rfl, ?_⟩) hHeld ?_
  rotate_left
  · (intro wq hSw; go_simp; try with_reducible rfl)
  try simp only [Act.put, List.setIfInBounds_toArray, List.set_cons_zero, List.set_cons_succ]
  refine wpAnyH_ready (rs := [5]) (by kernel_rfl) (by simp) ?_
  refine AllReadyH.cons (o := ⟨some 12, _, _, _, _, _⟩) rfl (fun KK hK => ?_) AllReadyH.nil
  go_simp
  go_at_call 30
  refine (newFind_any F fb fd key lvl _).mono ?_; rintro e w2 ⟨xf, rfl, hxf, hBf, hK2⟩
  have hxf0 : r0 < xf := Nat.lt_of_lt_of_le hsz (Nat.le_trans HW.out.size hxf)
  replace HW := Lib.hid (HW.out.trans hK2 (fun _ _ h => h))
  have HBF := Lib.hid hBf
  clear hK2 hBf hxf
  refine hK.out _ _ ?_ (fun hHeld2 => ?_)
  · exact HW.out
  clear hK KK hHeld
  have hHeld := hHeld2
  clear hHeld2
  try simp only [Act.put, List.setIfInBounds_toArray, List.set_cons_zero, List.set_cons_succ]
  refine wpAnyH_take (i := 6) (oi := ⟨some 13, _, _, _, _, _⟩) (v := ?_) rfl (by kernel_rfl) (by kernel_rfl) (by kernel_rfl) (fun _ _ _ h => h) (Or.inl ⟨by rfl, ?_⟩) hHeld ?_
  rotate_left
  · (intro wq hSw; go_simp; try with_reducible rfl)
  try simp only [Act.put, List.setIfInBounds_toArray, List.set_cons_zero, List.set_cons_succ]
  refine wpAnyH_ready (rs := [7]) (by kernel_rfl) (by simp) ?_
  refine AllReadyH.cons (o := ⟨some 14, _, _, _, _, _⟩) rfl (fun KK hK => ?_) AllReadyH.nil
  go_simp
  have HX := Lib.hid (Blk.new w2 (lkv F fb fd key 0 (.pointer (some ⟨xf, 0, none⟩)) 0 (.pointer none) (.pointer none) (.pointer none)) 98)
  have hal2 := (Kept.refl (fun _ => False) w2).alloc (.cells ⟨lkv F fb fd key 0 (.pointer (some ⟨xf, 0, none⟩)) 0 (.pointer none) (.pointer none) (.pointer none)⟩ 98)
  replace HW := Lib.hid (HW.out.trans hal2 (fun _ _ h => h))
  have hxl := HBF.out.lt
  replace HBF := Lib.hid (hal2.blk HBF.out (fun h => h))
  clear hal2
  refine hK.out _ _ ?_ (fun hHeld2 => ?_)
  · exact HW.out
  clear hK KK hHeld
  have hHeld := hHeld2
  clear hHeld2
  try simp only [Act.put, List.setIfInBounds_toArray, List.set_cons_zero, List.set_cons_succ]
  refine wpAnyH_take (i := 8) (oi := ⟨some 6, _, _, _, _, _⟩) (v := ?_) rfl (by kernel_rfl) (by kernel_rfl) (by kernel_rfl) (fun _ _ _ h => h) (Or.inl ⟨by rfl, ?_⟩) hHeld ?_
  rotate_left
  · (intro wq hSw; go_simp; try with_reducible rfl)
  try simp only [Act.put, List.setIfInBounds_toArray, List.set_cons_zero, List.set_cons_succ]
  refine wpAnyH_done (by kernel_rfl) ?_ _
  clear hHeld
  go_wp2
  go_ret
  have hr9 := HR0.out
  have hs9 := HK1.out.size
  refine ⟨_, xf, rfl, by omega, by omega, by omega, HX.out, HBF.out, ?_⟩
  have := HK1.out.trans HW.out (fun _ _ h => h)
  exact this

set_option maxHeartbeats 2000000 in
theorem lgoTo_yes (F : Nat) (h4 : 4 ≤ F) (h6 : F ≤ 6) (fb fd : Int) (hd : Reach3 10 fb fd) (key : ByteArray) (x : Nat) (ph : Int) (fp : Value) (nid : Nat) (ap op rp : Value) (w : World) (h : Blk w x 98 (lkv F fb fd key ph (fp) nid (ap) (op) (rp))) (n : Nat) (hn1 : 1 ≤ n) (hn2 : n ≤ 100) :
    Calls Tryz.prog 56 #[.pointer (some ⟨x, 0, none⟩), .int .u64 (n : Int)] w fun e w' => ∃ q, e = .returned (.tuple #[]) ∧ Blk w' x 98 (lkv F fb fd key 1 (fp) n (.pointer (some ⟨q, 0, none⟩)) (op) (rp)) ∧ AcqB w' q (nla F n) 0 ⟨#[]⟩ 0 false false ∧ w.heap.size ≤ q ∧ Kept (fun i => i = x) w w' := by
  have x0 := h.cell (i := 0) rfl
  have x1 := h.cell (i := 1) rfl
  have x2 := h.cell (i := 2) rfl
  have x3 := h.cell (i := 3) rfl
  have x4 := h.cell (i := 4) rfl
  have x5 := h.cell (i := 5) rfl
  have x6 := h.cell (i := 6) rfl
  have x7 := h.cell (i := 7) rfl
  have x8 := h.cell (i := 8) rfl
  have x9 := h.cell (i := 9) rfl
  have HB := Lib.hid h
  have hxl := h.lt
  clear h
  obtain ⟨a, ha⟩ : ∃ a, nla F n = a := ⟨_, rfl⟩
  have ha0 : ¬ a < 0 := by rw [← ha]; have := nla_in (F := F) hn1 hn2; omega
  go_enter Tryz.func56, Tryz.ntmps56
  go_wp2_with fail
  refine (latch_to 1 2 100 100 200 F 1000 10 fb fd (limF h4 h6) hd (n : Int) a ha _).mono ?_; rintro e w1 ⟨rfl, hK1⟩
  have HB1 := Lib.hid (hK1.blk HB.out (fun h => h))
  have HK1 := Lib.hid (hK1.mono (T := fun i => i = x) (fun _ h => h.elim))
  have HS1 := Lib.hid hK1.size
  clear hK1 HB x0 x1 x2 x3 x4 x5 x6 x7 x8 x9
  have hb1 := HB1.out
  have y11 := hb1.cell (i := 11) rfl
  have y13 := hb1.cell (i := 13) rfl
  have y14 := hb1.cell (i := 14) rfl
  have z11 := hb1.frozen 11
  have z13 := hb1.frozen 13
  have z14 := hb1.frozen 14
  clear hb1
  have HA := Lib.hid ha
  clear ha
  go_wp2_with fail
  refine (newAcquire_any a _).mono ?_; rintro e w2 ⟨rfl, hw2⟩
  have hal := (Kept.refl (fun _ => False) w1).alloc (.cells ⟨acqv a 0 ⟨#[]⟩ 0 false false⟩ 142)
  have hNB : AcqB (w1.alloc (.cells ⟨acqv a 0 ⟨#[]⟩ 0 false false⟩ 142)) w1.heap.size a 0 ⟨#[]⟩ 0 false false := Blk.new w1 (acqv a 0 ⟨#[]⟩ 0 false false) 142
  rw [hw2] at hal hNB
  generalize hq : w1.heap.size = q at *
  have HB2 := Lib.hid (hal.blk HB1.out (fun h => h))
  have hxq : x ≠ q := by have := HB1.out.lt; omega
  have HK2 := Lib.hid (HK1.out.trans (hal.mono (T := fun i => i = x) (fun _ h => h.elim)) (fun _ _ h => h))
  have HNB := Lib.hid hNB
  have HSQ := Lib.hid hq
  clear hal hNB hw2 HB1 HK1 hq y11 y13 y14 z11 z13 z14
  have hb1 := HB2.out
  have y11 := hb1.cell (i := 11) rfl
  have y13 := hb1.cell (i := 13) rfl
  have y14 := hb1.cell (i := 14) rfl
  have z11 := hb1.frozen 11
  have z13 := hb1.frozen 13
  have z14 := hb1.frozen 14
  clear hb1
  have HT := Lib.hid (((HB2.out.set 13 (.int .u64 (n : Int))).set 14 (.pointer (some ⟨q, 0, none⟩))).set 11 (.int .i64 1))
  have hK3 := (((Kept.refl (fun i => i = x) w2).setCell (a := ⟨x, 13, none⟩) (fun _ => rfl) (.int .u64 (n : Int))).setCell (a := ⟨x, 14, none⟩) (fun _ => rfl) (.pointer (some ⟨q, 0, none⟩))).setCell (a := ⟨x, 11, none⟩) (fun _ => rfl) (.int .i64 1)
  have HQ := Lib.hid (hK3.blk HNB.out (fun e => hxq e.symm))
  have HK3 := Lib.hid (HK2.out.trans hK3 (fun _ _ h => h))
  clear hK3
  go_wp2
  go_end0
  exact ⟨q, rfl, HT.out, by have := HQ.out; rwa [← HA.out] at this, by have := HSQ.out; have := HS1.out; omega, HK3.out⟩

set_option maxHeartbeats 2000000 in
theorem lgoTo_no (F : Nat) (h4 : 4 ≤ F) (h6 : F ≤ 6) (fb fd : Int) (hd : Reach3 10 fb fd) (key : ByteArray) (x : Nat) (ph : Int) (fp : Value) (nid : Nat) (ap op rp : Value) (w : World) (h : Blk w x 98 (lkv F fb fd key ph (fp) nid (ap) (op) (rp))) (n : Nat) (hn0 : n = 0 ∨ 100 < n) :
    Calls Tryz.prog 56 #[.pointer (some ⟨x, 0, none⟩), .int .u64 (n : Int)] w fun e w' => e = .returned (.tuple #[]) ∧ Blk w' x 98 (lkv F fb fd key 5 (fp) nid (ap) (op) (rp)) ∧ Kept (fun i => i = x) w w' := by
  have x0 := h.cell (i := 0) rfl
  have x1 := h.cell (i := 1) rfl
  have x2 := h.cell (i := 2) rfl
  have x3 := h.cell (i := 3) rfl
  have x4 := h.cell (i := 4) rfl
  have x5 := h.cell (i := 5) rfl
  have x6 := h.cell (i := 6) rfl
  have x7 := h.cell (i := 7) rfl
  have x8 := h.cell (i := 8) rfl
  have x9 := h.cell (i := 9) rfl
  have HB := Lib.hid h
  have hxl := h.lt
  clear h
  have ha := nla_out (F := F) hn0
  go_enter Tryz.func56, Tryz.ntmps56
  go_wp2_with fail
  refine (latch_to 1 2 100 100 200 F 1000 10 fb fd (limF h4 h6) hd (n : Int) (-1) ha _).mono ?_; rintro e w1 ⟨rfl, hK1⟩
  have HB1 := Lib.hid (hK1.blk HB.out (fun h => h))
  have HK1 := Lib.hid (hK1.mono (T := fun i => i = x) (fun _ h => h.elim))
  have HS1 := Lib.hid hK1.size
  clear hK1 HB x0 x1 x2 x3 x4 x5 x6 x7 x8 x9
  have hb1 := HB1.out
  have y11 := hb1.cell (i := 11) rfl
  have z11 := hb1.frozen 11
  clear hb1
  go_wp2
  (try simp only [Exit.inBlock, Exit.then]); refine bodyPost_ret (results_none rfl _ _ _) rfl ?_
  exact ⟨rfl, HB1.out.set 11 (.int .i64 5), HK1.out.setCell (a := ⟨x, 11, none⟩) (fun _ => rfl) (.int .i64 5)⟩

set_option maxHeartbeats 2000000 in
theorem lk_find_go (F : Nat) (fb fd : Int) (key : ByteArray) (x q b nid : Nat) (ap op rp : Value) (w : World) (h : Blk w x 98 (lkv F fb fd key 0 (.pointer (some ⟨q, 0, none⟩)) nid (ap) (op) (rp))) (Q : World → Prop) (hS : Calls Tryz.prog 32 #[.pointer (some ⟨q, 0, none⟩), .pointer (some ⟨b, 0, none⟩)] w fun e w' => e = .returned (.bool false) ∧ Q w') (hQ : ∀ w', Q w' → Blk w' x 98 (lkv F fb fd key 0 (.pointer (some ⟨q, 0, none⟩)) nid (ap) (op) (rp))) :
    Calls Tryz.prog 20 #[.pointer (some ⟨x, 0, none⟩), .pointer (some ⟨b, 0, none⟩)] w fun e w' => e = .returned (.bool false) ∧ Q w' := by
  have x11 := h.cell (i := 11) rfl
  have x12 := h.cell (i := 12) rfl
  have HS := Lib.hid hS
  have HQ := Lib.hid hQ
  clear h hS hQ
  go_enter Tryz.func20, Tryz.ntmps20
  go_wp2_with fail
  refine HS.out.mono ?_; rintro e w1 ⟨rfl, hq1⟩
  have y11 := (HQ.out w1 hq1).cell (i := 11) rfl
  have HQ1 := Lib.hid hq1
  clear hq1 x11 x12
  go_wp2
  go_ret
  exact ⟨rfl, HQ1.out⟩

set_option maxHeartbeats 2000000 in
theorem lk_acq_go (F : Nat) (fb fd : Int) (key : ByteArray) (x q b nid : Nat) (fp op rp : Value) (w : World) (h : Blk w x 98 (lkv F fb fd key 1 (fp) nid (.pointer (some ⟨q, 0, none⟩)) (op) (rp))) (Q : World → Prop) (hS : Calls Tryz.prog 57 #[.pointer (some ⟨q, 0, none⟩), .pointer (some ⟨b, 0, none⟩)] w fun e w' => e = .returned (.bool false) ∧ Q w') (hQ : ∀ w', Q w' → Blk w' x 98 (lkv F fb fd key 1 (fp) nid (.pointer (some ⟨q, 0, none⟩)) (op) (rp))) :
    Calls Tryz.prog 20 #[.pointer (some ⟨x, 0, none⟩), .pointer (some ⟨b, 0, none⟩)] w fun e w' => e = .returned (.bool false) ∧ Q w' := by
  have x11 := h.cell (i := 11) rfl
  have x14 := h.cell (i := 14) rfl
  have HS := Lib.hid hS
  have HQ := Lib.hid hQ
  clear h hS hQ
  go_enter Tryz.func20, Tryz.ntmps20
  go_wp2_with fail
  refine HS.out.mono ?_; rintro e w1 ⟨rfl, hq1⟩
  have y11 := (HQ.out w1 hq1).cell (i := 11) rfl
  have HQ1 := Lib.hid hq1
  clear hq1 x11 x14
  go_wp2
  go_ret
  exact ⟨rfl, HQ1.out⟩

set_option maxHeartbeats 2000000 in
theorem lk_own_go (F : Nat) (fb fd : Int) (key : ByteArray) (x q b nid : Nat) (fp ap rp : Value) (w : World) (h : Blk w x 98 (lkv F fb fd key 2 (fp) nid (ap) (.pointer (some ⟨q, 0, none⟩)) (rp))) (Q : World → Prop) (hS : Calls Tryz.prog 59 #[.pointer (some ⟨q, 0, none⟩), .pointer (some ⟨b, 0, none⟩)] w fun e w' => e = .returned (.bool false) ∧ Q w') (hQ : ∀ w', Q w' → Blk w' x 98 (lkv F fb fd key 2 (fp) nid (ap) (.pointer (some ⟨q, 0, none⟩)) (rp))) :
    Calls Tryz.prog 20 #[.pointer (some ⟨x, 0, none⟩), .pointer (some ⟨b, 0, none⟩)] w fun e w' => e = .returned (.bool false) ∧ Q w' := by
  have x11 := h.cell (i := 11) rfl
  have x15 := h.cell (i := 15) rfl
  have HS := Lib.hid hS
  have HQ := Lib.hid hQ
  clear h hS hQ
  go_enter Tryz.func20, Tryz.ntmps20
  go_wp2_with fail
  refine HS.out.mono ?_; rintro e w1 ⟨rfl, hq1⟩
  have y11 := (HQ.out w1 hq1).cell (i := 11) rfl
  have HQ1 := Lib.hid hq1
  clear hq1 x11 x15
  go_wp2
  go_ret
  exact ⟨rfl, HQ1.out⟩

set_option maxHeartbeats 2000000 in
theorem lk_find_yes (F : Nat) (h4 : 4 ≤ F) (h6 : F ≤ 6) (fb fd : Int) (hd : Reach3 10 fb fd) (key : ByteArray) (x : Nat) (q b nid : Nat) (ap op rp : Value) (t : Nat) (ht1 : 1 ≤ t) (ht2 : t ≤ 100) (w : World) (h : Blk w x 98 (lkv F fb fd key 0 (.pointer (some ⟨q, 0, none⟩)) nid (ap) (op) (rp))) (Q : World → Prop) (hS : Calls Tryz.prog 32 #[.pointer (some ⟨q, 0, none⟩), .pointer (some ⟨b, 0, none⟩)] w fun e w' => e = .returned (.bool true) ∧ Q w') (hQ : ∀ w', Q w' → Blk w' x 98 (lkv F fb fd key 0 (.pointer (some ⟨q, 0, none⟩)) nid (ap) (op) (rp))) (hN : ∀ w1, Q w1 → Calls Tryz.prog 33 #[.pointer (some ⟨q, 0, none⟩)] w1 fun e w' => ∃ (lv : Nat) (A : Option Addr) (n c : Nat) (hi : ByteArray) (la : Bool) (rt : Nat), e = .returned (.tuple #[.int .u64 (t : Int), .agg #[.int .i64 (lv : Int), .slice A n c, .string hi, .bool la, .int .u64 (rt : Int)]]) ∧ Kept (fun _ => False) w1 w') :
    Calls Tryz.prog 20 #[.pointer (some ⟨x, 0, none⟩), .pointer (some ⟨b, 0, none⟩)] w fun e w' => e = .returned (.bool false) ∧ ∃ w1 q2, Q w1 ∧ Blk w' x 98 (lkv F fb fd key 1 (.pointer (some ⟨q, 0, none⟩)) t (.pointer (some ⟨q2, 0, none⟩)) (op) (rp)) ∧ AcqB w' q2 (nla F t) 0 ⟨#[]⟩ 0 false false ∧ w1.heap.size ≤ q2 ∧ Kept (fun i => i = x) w1 w' := by
  have x11 := h.cell (i := 11) rfl
  have x12 := h.cell (i := 12) rfl
  have HS := Lib.hid hS
  have HQ := Lib.hid hQ
  have HN := Lib.hid hN
  clear h hS hQ hN
  go_enter Tryz.func20, Tryz.ntmps20
  go_wp2_with fail
  refine HS.out.mono ?_; rintro e w1 ⟨rfl, hq1⟩
  have HB1 := Lib.hid (HQ.out w1 hq1)
  have HN1 := Lib.hid (HN.out w1 hq1)
  have HQ1 := Lib.hid hq1
  clear hq1 x11 x12 HQ HN
  have x12 := HB1.out.cell (i := 12) rfl
  go_wp2_with fail
  refine HN1.out.mono ?_; rintro e w2 ⟨lv, A, n, c, hi, la, rt, rfl, hK2⟩
  have HB2 := Lib.hid (hK2.blk HB1.out (fun h => h))
  have HK2 := Lib.hid hK2
  clear hK2 x12 HB1
  go_wp2_with fail
  have hal := (Kept.refl (fun _ => False) w2).alloc (.cells #[.int .i64 (lv : Int), .slice A n c, .string hi, .bool la, .int .u64 (rt : Int)] 40)
  have HB3 := Lib.hid (hal.blk HB2.out (fun h => h))
  have HK3 := Lib.hid ((HK2.out.trans hal (fun _ _ h => h)).mono (T := fun i => i = x) (fun _ h => h.elim))
  clear hal HB2 HK2
  generalize w2.alloc (.cells #[.int .i64 (lv : Int), .slice A n c, .string hi, .bool la, .int .u64 (rt : Int)] 40) = W at *
  refine (lgoTo_yes F h4 h6 fb fd hd key x 0 (.pointer (some ⟨q, 0, none⟩)) nid ap op rp W HB3.out t ht1 ht2).mono ?_; rintro e w4 ⟨q2, rfl, hB4, hA4, hq4, hK4⟩
  have HB4 := Lib.hid hB4
  have HA4 := Lib.hid hA4
  have HK4 := Lib.hid (HK3.out.trans hK4 (fun _ _ h => h))
  have HQ4 := Lib.hid (Nat.le_trans HK3.out.size hq4)
  clear hB4 hA4 hq4 hK4 HB3 HK3
  have y11 := HB4.out.cell (i := 11) rfl
  go_wp2
  go_ret
  exact ⟨rfl, w1, q2, HQ1.out, HB4.out, HA4.out, HQ4.out, HK4.out⟩

set_option maxHeartbeats 2000000 in
theorem lk_find_no (F : Nat) (h4 : 4 ≤ F) (h6 : F ≤ 6) (fb fd : Int) (hd : Reach3 10 fb fd) (key : ByteArray) (x : Nat) (q b nid : Nat) (ap op rp : Value) (t : Nat) (ht0 : t = 0 ∨ 100 < t) (w : World) (h : Blk w x 98 (lkv F fb fd key 0 (.pointer (some ⟨q, 0, none⟩)) nid (ap) (op) (rp))) (Q : World → Prop) (hS : Calls Tryz.prog 32 #[.pointer (some ⟨q, 0, none⟩), .pointer (some ⟨b, 0, none⟩)] w fun e w' => e = .returned (.bool true) ∧ Q w') (hQ : ∀ w', Q w' → Blk w' x 98 (lkv F fb fd key 0 (.pointer (some ⟨q, 0, none⟩)) nid (ap) (op) (rp))) (hN : ∀ w1, Q w1 → Calls Tryz.prog 33 #[.pointer (some ⟨q, 0, none⟩)] w1 fun e w' => ∃ (lv : Nat) (A : Option Addr) (n c : Nat) (hi : ByteArray) (la : Bool) (rt : Nat), e = .returned (.tuple #[.int .u64 (t : Int), .agg #[.int .i64 (lv : Int), .slice A n c, .string hi, .bool la, .int .u64 (rt : Int)]]) ∧ Kept (fun _ => False) w1 w') :
    Calls Tryz.prog 20 #[.pointer (some ⟨x, 0, none⟩), .pointer (some ⟨b, 0, none⟩)] w fun e w' => e = .returned (.bool true) ∧ ∃ w1, Q w1 ∧ Blk w' x 98 (lkv F fb fd key 5 (.pointer (some ⟨q, 0, none⟩)) nid (ap) (op) (rp)) ∧ Kept (fun i => i = x) w1 w' := by
  have x11 := h.cell (i := 11) rfl
  have x12 := h.cell (i := 12) rfl
  have HS := Lib.hid hS
  have HQ := Lib.hid hQ
  have HN := Lib.hid hN
  clear h hS hQ hN
  go_enter Tryz.func20, Tryz.ntmps20
  go_wp2_with fail
  refine HS.out.mono ?_; rintro e w1 ⟨rfl, hq1⟩
  have HB1 := Lib.hid (HQ.out w1 hq1)
  have HN1 := Lib.hid (HN.out w1 hq1)
  have HQ1 := Lib.hid hq1
  clear hq1 x11 x12 HQ HN
  have x12 := HB1.out.cell (i := 12) rfl
  go_wp2_with fail
  refine HN1.out.mono ?_; rintro e w2 ⟨lv, A, n, c, hi, la, rt, rfl, hK2⟩
  have HB2 := Lib.hid (hK2.blk HB1.out (fun h => h))
  have HK2 := Lib.hid hK2
  clear hK2 x12 HB1
  go_wp2_with fail
  have hal := (Kept.refl (fun _ => False) w2).alloc (.cells #[.int .i64 (lv : Int), .slice A n c, .string hi, .bool la, .int .u64 (rt : Int)] 40)
  have HB3 := Lib.hid (hal.blk HB2.out (fun h => h))
  have HK3 := Lib.hid ((HK2.out.trans hal (fun _ _ h => h)).mono (T := fun i => i = x) (fun _ h => h.elim))
  clear hal HB2 HK2
  generalize w2.alloc (.cells #[.int .i64 (lv : Int), .slice A n c, .string hi, .bool la, .int .u64 (rt : Int)] 40) = W at *
  refine (lgoTo_no F h4 h6 fb fd hd key x 0 (.pointer (some ⟨q, 0, none⟩)) nid ap op rp W HB3.out t ht0).mono ?_; rintro e w4 ⟨rfl, hB4, hK4⟩
  have HB4 := Lib.hid hB4
  have HK4 := Lib.hid (HK3.out.trans hK4 (fun _ _ h => h))
  clear hB4 hK4 HB3 HK3
  have y11 := HB4.out.cell (i := 11) rfl
  go_wp2
  go_ret
  exact ⟨rfl, w1, HQ1.out, HB4.out, HK4.out⟩

set_option maxHeartbeats 4000000 in
theorem lread_any (F : Nat) (h4 : 4 ≤ F) (h6 : F ≤ 6) (fb fd : Int) (hd : Reach3 10 fb fd) (key : ByteArray) (x : Nat) (ph : Int) (fp : Value) (nid q : Nat) (op rp : Value) (i : Int) (N : Nat) (K : ByteArray) (M : Int) (fr : Bool) (hN : N < 18446744073709551616) (w : World) (h : Blk w x 98 (lkv F fb fd key ph (fp) nid (.pointer (some ⟨q, 0, none⟩)) (op) (rp))) (hA : AcqB w q i N K M fr true) :
    Calls Tryz.prog 58 #[.pointer (some ⟨x, 0, none⟩)] w fun e w' => ∃ q2, e = .returned (.tuple #[]) ∧ Blk w' x 98 (lkv F fb fd key 2 (fp) nid (.pointer (some ⟨q, 0, none⟩)) (.pointer (some ⟨q2, 0, none⟩)) (rp)) ∧ Con (fun i => i = q2) w' 1 2 100 100 200 F 1000 10 fb fd q2 149 nid cs0 [.int .u64 (lockW N : Int), .bool false] ∧ w.heap.size ≤ q2 ∧ Kept (fun i => i = x) w w' := by
  have HB := Lib.hid h
  have HA := Lib.hid hA
  have hxl := h.lt
  clear h hA
  go_enter Tryz.func58, Tryz.ntmps58
  go_upto_region 0 with fail
  refine wp_region_held_drew (S := (fun w' => ∃ (ph9 : Int) (op9 : Value), Blk w' x 98 (lkv F fb fd key ph9 fp nid (.pointer (some ⟨q, 0, none⟩)) op9 rp))) (by kernel_rfl) ?_ (fun hHeld => ?_)
  · exact ⟨_, _, HB.out.of (w' := w.drew) rfl⟩
  have HBc := Lib.hid (HB.out.of (w' := w.drew) rfl)
  have HAc := Lib.hid (HA.out.of (w' := w.drew) rfl)
  have HKc := Lib.hid ((Kept.refl (fun i => i = x) w).drew)
  have HSZ := Lib.hid (show w.heap.size ≤ w.drew.heap.size from Nat.le_refl _)
  generalize w.drew = G at *
  refine wpAnyH_take (i := 0) (oi := ⟨some 2, _, _, _, _, _⟩) (v := ?_) rfl (by kernel_rfl) (by kernel_rfl) (by kernel_rfl) (fun _ _ _ h => h) (Or.inl ⟨by rfl, ?_⟩) hHeld ?_
  rotate_left
  · (intro wq hSw; go_simp; try with_reducible rfl)
  try simp only [Act.put, List.setIfInBounds_toArray, List.set_cons_zero, List.set_cons_succ]
  refine wpAnyH_take (i := 1) (oi := ⟨some 3, _, _, _, _, _⟩) (v := ?_) rfl (by kernel_rfl) (by kernel_rfl) (by kernel_rfl) (fun _ _ _ h => h) (Or.inl ⟨by rfl, ?_⟩) hHeld ?_
  rotate_left
  · (intro wq hSw; go_simp; try with_reducible rfl)
  try simp only [Act.put, List.setIfInBounds_toArray, List.set_cons_zero, List.set_cons_succ]
  refine wpAnyH_take (i := 2) (oi := ⟨some 4, _, _, _, _, _⟩) (v := ?_) rfl (by kernel_rfl) (by kernel_rfl) (by kernel_rfl) (fun _ _ _ h => h) (Or.inl ⟨by rfl, ?_⟩) hHeld ?_
  rotate_left
  · (intro wq hSw; go_simp; try with_reducible rfl)
  try simp only [Act.put, List.setIfInBounds_toArray, List.set_cons_zero, List.set_cons_succ]
  refine wpAnyH_take (i := 3) (oi := ⟨some 5, _, _, _, _, _⟩) (v := ?_) rfl (by kernel_rfl) (by kernel_rfl) (by kernel_rfl) (fun _ _ _ h => h) (Or.inl ⟨by rfl, ?_⟩) hHeld ?_
  rotate_left
  · (intro wq hSw; go_simp; try with_reducible rfl)
  try simp only [Act.put, List.setIfInBounds_toArray, List.set_cons_zero, List.set_cons_succ]
  refine wpAnyH_take (i := 4) (oi := ⟨some 6, _, _, _, _, _⟩) (v := ?_) rfl (by kernel_rfl) (by kernel_rfl) (by kernel_rfl) (fun _ _ _ h => h) (Or.inl ⟨by rfl, ?_⟩) hHeld ?_
  rotate_left
  · (intro wq hSw; go_simp; try with_reducible rfl)
  try simp only [Act.put, List.setIfInBounds_toArray, List.set_cons_zero, List.set_cons_succ]
  refine wpAnyH_take (i := 5) (oi := ⟨some 7, _, _, _, _, _⟩) (v := ?_) rfl (by kernel_rfl) (by kernel_rfl) (by kernel_rfl) (fun _ _ _ h => h) (Or.inl ⟨by rfl, ?_⟩) hHeld ?_
  rotate_left
  · (intro wq hSw; obtain ⟨ph9, op9, hb9⟩ := hSw; have x0 := hb9.cell (i := 0) rfl; have x1 := hb9.cell (i := 1) rfl; have x2 := hb9.cell (i := 2) rfl; have x3 := hb9.cell (i := 3) rfl; have x4 := hb9.cell (i := 4) rfl; have x5 := hb9.cell (i := 5) rfl; have x6 := hb9.cell (i := 6) rfl; have x7 := hb9.cell (i := 7) rfl; have x8 := hb9.cell (i := 8) rfl; have x9 := hb9.cell (i := 9) rfl; have x13 := hb9.cell (i := 13) rfl; have x14 := hb9.cell (i := 14) rfl; clear hb9; go_simp; try with_reducible rfl)
  try simp only [Act.put, List.setIfInBounds_toArray, List.set_cons_zero, List.set_cons_succ]
  refine wpAnyH_take (i := 6) (oi := ⟨some 8, _, _, _, _, _⟩) (v := ?_) rfl (by kernel_rfl) (by kernel_rfl) (by kernel_rfl) (fun _ _ _ h => h) (Or.inl ⟨by rfl, ?_⟩) hHeld ?_
  rotate_left
  · (intro wq hSw; go_simp; try with_reducible rfl)
  try simp only [Act.put, List.setIfInBounds_toArray, List.set_cons_zero, List.set_cons_succ]
  refine wpAnyH_take (i := 7) (oi := ⟨some 9, _, _, _, _, _⟩) (v := ?_) rfl (by kernel_rfl) (by kernel_rfl) (by kernel_rfl) (fun _ _ _ h => h) (Or.inl ⟨by rfl, ?_⟩) hHeld ?_
  rotate_left
  · (intro wq hSw; go_simp; try with_reducible rfl)
  try simp only [Act.put, List.setIfInBounds_toArray, List.set_cons_zero, List.set_cons_succ]
  refine wpAnyH_take (i := 8) (oi := ⟨some 10, _, _, _, _, _⟩) (v := ?_) rfl (by kernel_rfl) (by kernel_rfl) (by kernel_rfl) (fun _ _ _ h => h) (Or.inl ⟨by rfl, ?_⟩) hHeld ?_
  rotate_left
  · (intro wq hSw; go_simp; try with_reducible rfl)
  try simp only [Act.put, List.setIfInBounds_toArray, List.set_cons_zero, List.set_cons_succ]
  refine wpAnyH_take (i := 9) (oi := ⟨some 11, _, _, _, _, _⟩) (v := ?_) rfl (by kernel_rfl) (by kernel_rfl) (by kernel_rfl) (fun _ _ _ h => h) (Or.inl ⟨by rfl, ?_⟩) hHeld ?_
  rotate_left
  · (intro wq hSw; obtain ⟨ph9, op9, hb9⟩ := hSw; have x0 := hb9.cell (i := 0) rfl; have x1 := hb9.cell (i := 1) rfl; have x2 := hb9.cell (i := 2) rfl; have x3 := hb9.cell (i := 3) rfl; have x4 := hb9.cell (i := 4) rfl; have x5 := hb9.cell (i := 5) rfl; have x6 := hb9.cell (i := 6) rfl; have x7 := hb9.cell (i := 7) rfl; have x8 := hb9.cell (i := 8) rfl; have x9 := hb9.cell (i := 9) rfl; have x13 := hb9.cell (i := 13) rfl; have x14 := hb9.cell (i := 14) rfl; clear hb9; go_simp; try with_reducible rfl)
  try simp only [Act.put, List.setIfInBounds_toArray, List.set_cons_zero, List.set_cons_succ]
  refine wpAnyH_take (i := 10) (oi := ⟨some 12, _, _, _, _, _⟩) (v := ?_) rfl (by kernel_rfl) (by kernel_rfl) (by kernel_rfl) (fun _ _ _ h => h) (Or.inl ⟨by rfl, ?_⟩) hHeld ?_
  rotate_left
  · (intro wq hSw; go_simp; try with_reducible rfl)
  try simp only [Act.put, List.setIfInBounds_toArray, List.set_cons_zero, List.set_cons_succ]
  refine wpAnyH_take (i := 11) (oi := ⟨some 13, _, _, _, _, _⟩) (v := ?_) rfl (by kernel_rfl) (by kernel_rfl) (by kernel_rfl) (fun _ _ _ h => h) (Or.inl ⟨by rfl, ?_⟩) hHeld ?_
  rotate_left
  · (intro wq hSw; go_simp; try with_reducible rfl)
  try simp only [Act.put, List.setIfInBounds_toArray, List.set_cons_zero, List.set_cons_succ]
  refine wpAnyH_take (i := 12) (oi := ⟨some 14, _, _, _, _, _⟩) (v := ?_) rfl (by kernel_rfl) (by kernel_rfl) (by kernel_rfl) (fun _ _ _ h => h) (Or.inl ⟨by rfl, ?_⟩) hHeld ?_
  rotate_left
  · (intro wq hSw; go_simp; try with_reducible rfl)
  try simp only [Act.put, List.setIfInBounds_toArray, List.set_cons_zero, List.set_cons_succ]
  refine wpAnyH_take (i := 13) (oi := ⟨some 15, _, _, _, _, _⟩) (v := ?_) rfl (by kernel_rfl) (by kernel_rfl) (by kernel_rfl) (fun _ _ _ h => h) (Or.inl ⟨by rfl, ?_⟩) hHeld ?_
  rotate_left
  · (intro wq hSw; obtain ⟨ph9, op9, hb9⟩ := hSw; have x0 := hb9.cell (i := 0) rfl; have x1 := hb9.cell (i := 1) rfl; have x2 := hb9.cell (i := 2) rfl; have x3 := hb9.cell (i := 3) rfl; have x4 := hb9.cell (i := 4) rfl; have x5 := hb9.cell (i := 5) rfl; have x6 := hb9.cell (i := 6) rfl; have x7 := hb9.cell (i := 7) rfl; have x8 := hb9.cell (i := 8) rfl; have x9 := hb9.cell (i := 9) rfl; have x13 := hb9.cell (i := 13) rfl; have x14 := hb9.cell (i := 14) rfl; clear hb9; go_simp; try with_reducible rfl)
  try simp only [Act.put, List.setIfInBounds_toArray, List.set_cons_zero, List.set_cons_succ]
  refine wpAnyH_ready (rs := [14]) (by kernel_rfl) (by simp) ?_
  refine AllReadyH.cons (o := ⟨some 16, _, _, _, _, _⟩) rfl (fun KK hK => ?_) AllReadyH.nil
  go_simp
  go_at_call 103
  refine (word_yes q i N K M fr _ HAc.out hN).mono ?_; rintro e w2 ⟨rfl, rfl⟩
  refine hK.out _ _ ?_ (fun hHeld2 => ?_)
  · exact ⟨_, _, HBc.out⟩
  clear hK KK hHeld
  have hHeld := hHeld2
  clear hHeld2
  try simp only [Act.put, List.setIfInBounds_toArray, List.set_cons_zero, List.set_cons_succ]
  refine wpAnyH_ready (rs := [15]) (by kernel_rfl) (by simp) ?_
  refine AllReadyH.cons (o := ⟨some 17, _, _, _, _, _⟩) rfl (fun KK hK => ?_) AllReadyH.nil
  go_simp
  go_at_call 102
  refine (newOwn_any 1 2 100 100 200 F 1000 10 fb fd (limF h4 h6) hd nid (lockW N) _).mono ?_; rintro e w3 ⟨q2, rfl, hC3, hq3, hK3⟩
  have hxG := HBc.out.lt
  replace HBc := Lib.hid (hK3.blk HBc.out (fun h => h))
  replace HKc := Lib.hid (HKc.out.trans hK3 (fun _ _ h => h.elim))
  have HC := Lib.hid hC3
  have HQ2 := Lib.hid (Nat.le_trans HSZ.out hq3)
  have HXQ := Lib.hid (show x ≠ q2 by omega)
  clear hK3 hC3 hq3 hxG
  have hb2 := HBc.out
  have y15 := hb2.cell (i := 15) rfl
  have z15 := hb2.frozen 15
  clear hb2
  refine hK.out _ _ ?_ (fun hHeld2 => ?_)
  · exact ⟨_, _, HBc.out⟩
  clear hK KK hHeld
  have hHeld := hHeld2
  clear hHeld2
  try simp only [Act.put, List.setIfInBounds_toArray, List.set_cons_zero, List.set_cons_succ]
  refine wpAnyH_take (i := 16) (oi := ⟨some 18, _, _, _, _, _⟩) (v := ?_) rfl (by kernel_rfl) (by kernel_rfl) (by kernel_rfl) (fun _ _ _ h => h) (Or.inl ⟨by rfl, ?_⟩) hHeld ?_
  rotate_left
  · (intro wq hSw; go_simp; try with_reducible rfl)
  try simp only [Act.put, List.setIfInBounds_toArray, List.set_cons_zero, List.set_cons_succ]
  refine wpAnyH_take (i := 17) (oi := ⟨some 19, _, _, _, _, _⟩) (v := ?_) rfl (by kernel_rfl) (by kernel_rfl) (by kernel_rfl) (fun _ _ _ h => h) (Or.inl ⟨by rfl, ?_⟩) hHeld ?_
  rotate_left
  · (intro wq hSw; go_simp; try with_reducible rfl)
  try simp only [Act.put, List.setIfInBounds_toArray, List.set_cons_zero, List.set_cons_succ]
  refine wpAnyH_ready (rs := [18]) (by kernel_rfl) (by simp) ?_
  refine AllReadyH.cons (o := ⟨none, _, _, _, _, _⟩) rfl (fun KK hK => ?_) AllReadyH.nil
  go_simp
  replace HBc := Lib.hid (HBc.out.set 15 (.pointer (some ⟨q2, 0, none⟩)))
  have hK4 := (Kept.refl (fun i => i = x) w3).setCell (a := ⟨x, 15, none⟩) (fun _ => rfl) (.pointer (some ⟨q2, 0, none⟩))
  replace HKc := Lib.hid (HKc.out.trans hK4 (fun _ _ h => h))
  replace HC := Lib.hid (HC.out.kept hK4 (fun i hi e => HXQ.out (e.symm.trans hi)))
  clear hK4 y15 z15
  generalize w3.setCell ⟨x, 15, none⟩ (.pointer (some ⟨q2, 0, none⟩)) = w4 at *
  have hb2 := HBc.out
  have y11 := hb2.cell (i := 11) rfl
  have z11 := hb2.frozen 11
  clear hb2
  refine hK.out _ _ ?_ (fun hHeld2 => ?_)
  · exact ⟨_, _, HBc.out⟩
  clear hK KK hHeld
  have hHeld := hHeld2
  clear hHeld2
  try simp only [Act.put, List.setIfInBounds_toArray, List.set_cons_zero, List.set_cons_succ]
  refine wpAnyH_take (i := 19) (oi := ⟨some 20, _, _, _, _, _⟩) (v := ?_) rfl (by kernel_rfl) (by kernel_rfl) (by kernel_rfl) (fun _ _ _ h => h) (Or.inl ⟨by rfl, ?_⟩) hHeld ?_
  rotate_left
  · (intro wq hSw; go_simp; try with_reducible rfl)
  try simp only [Act.put, List.setIfInBounds_toArray, List.set_cons_zero, List.set_cons_succ]
  refine wpAnyH_take (i := 20) (oi := ⟨some 21, _, _, _, _, _⟩) (v := ?_) rfl (by kernel_rfl) (by kernel_rfl) (by kernel_rfl) (fun _ _ _ h => h) (Or.inl ⟨by rfl, ?_⟩) hHeld ?_
  rotate_left
  · (intro wq hSw; go_simp; try with_reducible rfl)
  try simp only [Act.put, List.setIfInBounds_toArray, List.set_cons_zero, List.set_cons_succ]
  refine wpAnyH_ready (rs := [21]) (by kernel_rfl) (by simp) ?_
  refine AllReadyH.cons (o := ⟨none, _, _, _, _, _⟩) rfl (fun KK hK => ?_) AllReadyH.nil
  go_simp
  replace HBc := Lib.hid (HBc.out.set 11 (.int .i64 2))
  have hK4 := (Kept.refl (fun i => i = x) w4).setCell (a := ⟨x, 11, none⟩) (fun _ => rfl) (.int .i64 2)
  replace HKc := Lib.hid (HKc.out.trans hK4 (fun _ _ h => h))
  replace HC := Lib.hid (HC.out.kept hK4 (fun i hi e => HXQ.out (e.symm.trans hi)))
  clear hK4 y11 z11
  generalize w4.setCell ⟨x, 11, none⟩ (.int .i64 2) = w5 at *
  refine hK.out _ _ ?_ (fun hHeld2 => ?_)
  · exact ⟨_, _, HBc.out⟩
  clear hK KK hHeld
  have hHeld := hHeld2
  clear hHeld2
  try simp only [Act.put, List.setIfInBounds_toArray, List.set_cons_zero, List.set_cons_succ]
  refine wpAnyH_done (by kernel_rfl) ?_ _
  clear hHeld
  go_wp2
  go_end0
  exact ⟨q2, rfl, HBc.out, HC.out, HQ2.out, HKc.out⟩

set_option maxHeartbeats 2000000 in
theorem lk_acq_end (F : Nat) (h4 : 4 ≤ F) (h6 : F ≤ 6) (fb fd : Int) (hd : Reach3 10 fb fd) (key : ByteArray) (x : Nat) (q b nid : Nat) (fp op rp : Value) (i : Int) (N : Nat) (K : ByteArray) (M : Int) (fr : Bool) (hN : N < 18446744073709551616) (w : World) (h : Blk w x 98 (lkv F fb fd key 1 (fp) nid (.pointer (some ⟨q, 0, none⟩)) (op) (rp))) (Q : World → Prop) (hS : Calls Tryz.prog 57 #[.pointer (some ⟨q, 0, none⟩), .pointer (some ⟨b, 0, none⟩)] w fun e w' => e = .returned (.bool true) ∧ Q w') (hQ : ∀ w', Q w' → Blk w' x 98 (lkv F fb fd key 1 (fp) nid (.pointer (some ⟨q, 0, none⟩)) (op) (rp)) ∧ AcqB w' q i N K M fr true) :
    Calls Tryz.prog 20 #[.pointer (some ⟨x, 0, none⟩), .pointer (some ⟨b, 0, none⟩)] w fun e w' => e = .returned (.bool false) ∧ ∃ w1 q2, Q w1 ∧ Blk w' x 98 (lkv F fb fd key 2 (fp) nid (.pointer (some ⟨q, 0, none⟩)) (.pointer (some ⟨q2, 0, none⟩)) (rp)) ∧ Con (fun i => i = q2) w' 1 2 100 100 200 F 1000 10 fb fd q2 149 nid cs0 [.int .u64 (lockW N : Int), .bool false] ∧ w1.heap.size ≤ q2 ∧ Kept (fun i => i = x) w1 w' := by
  have x11 := h.cell (i := 11) rfl
  have x14 := h.cell (i := 14) rfl
  have HS := Lib.hid hS
  have HQ := Lib.hid hQ
  clear h hS hQ
  go_enter Tryz.func20, Tryz.ntmps20
  go_wp2_with fail
  refine HS.out.mono ?_; rintro e w1 ⟨rfl, hq1⟩
  have HB1 := Lib.hid (HQ.out w1 hq1)
  have HQ1 := Lib.hid hq1
  clear hq1 x11 x14 HQ
  go_wp2_with fail
  refine (lread_any F h4 h6 fb fd hd key x 1 fp nid q op rp i N K M fr hN w1 HB1.out.1 HB1.out.2).mono ?_; rintro e w2 ⟨q2, rfl, hB2, hC2, hq2, hK2⟩
  have y11 := hB2.cell (i := 11) rfl
  have HB2 := Lib.hid hB2
  have HC2 := Lib.hid hC2
  have HQ2 := Lib.hid hq2
  have HK2 := Lib.hid hK2
  clear hB2 hC2 hq2 hK2 HB1
  go_wp2
  go_ret
  exact ⟨rfl, w1, q2, HQ1.out, HB2.out, HC2.out, HQ2.out, HK2.out⟩

set_option maxHeartbeats 4000000 in
theorem lcheck_yes (Z : Nat → Prop) (F : Nat) (h4 : 4 ≤ F) (h6 : F ≤ 6) (fb fd : Int) (hd : Reach3 10 fb fd) (key : ByteArray) (x : Nat) (ph : Int) (fp : Value) (nid q : Nat) (ap rp : Value) (s : Cs) (wd : Nat) (w : World) (h : Blk w x 98 (lkv F fb fd key ph (fp) nid (ap) (.pointer (some ⟨q, 0, none⟩)) (rp))) (hC : Con Z w 1 2 100 100 200 F 1000 10 fb fd q 149 nid s [.int .u64 (wd : Int), .bool true]) (h40 : s.xs.length ≤ 1099511627776) (hcov : (s.la || ltB key.toList s.hi.toList) = true) :
    Calls Tryz.prog 60 #[.pointer (some ⟨x, 0, none⟩)] w fun e w' => e = .returned (.tuple #[]) ∧ Blk w' x 98 (lkv F fb fd key 4 (fp) nid (ap) (.pointer (some ⟨q, 0, none⟩)) (rp)) ∧ Kept (fun i => i = x) w w' := by
  have x15 := h.cell (i := 15) rfl
  have HB := Lib.hid h
  have HC := Lib.hid hC
  clear h hC
  go_enter Tryz.func60, Tryz.ntmps60
  go_wp2_with fail
  refine (oheld_any Z 1 2 100 100 200 F 1000 10 fb fd q nid s wd _ HC.out h40).mono ?_; rintro e w1 ⟨A, c, rfl, hR, hA, hK1⟩
  have HB1 := Lib.hid (hK1.blk HB.out (fun h => h))
  have HK1 := Lib.hid hK1
  clear hR hA hK1 HB x15
  go_upto_region 1 with fail
  have hal := (Kept.refl (fun _ => False) w1).alloc (.cells #[.int .u64 (nid : Int), .int .u64 (wd : Int), .int .i64 (s.lv : Int), .slice A s.xs.length c, .string s.hi, .bool s.la, .int .u64 (s.rt : Int)] 56)
  have HHB := Lib.hid (Blk.new w1 [.int .u64 (nid : Int), .int .u64 (wd : Int), .int .i64 (s.lv : Int), .slice A s.xs.length c, .string s.hi, .bool s.la, .int .u64 (s.rt : Int)] 56)
  have HB2 := Lib.hid (hal.blk HB1.out (fun h => h))
  have hxl := HB1.out.lt
  have HK2 := Lib.hid (HK1.out.trans hal (fun _ _ h => h))
  clear hal HB1 HK1
  generalize w1.alloc (.cells #[.int .u64 (nid : Int), .int .u64 (wd : Int), .int .i64 (s.lv : Int), .slice A s.xs.length c, .string s.hi, .bool s.la, .int .u64 (s.rt : Int)] 56) = W at *
  generalize w1.heap.size = r1 at *
  refine qregion (fun w' => Kept (fun _ => False) W w') (by kernel_rfl) (by kernel_rfl) (Kept.refl _ _).drew ?_
  refine qstep (o := ⟨some 8, _, _, _, _, _⟩) (v := ?_) (by rfl) (fun wq hSw => ?_) ?_
  rotate_left
  · (go_simp; try with_reducible rfl)
  try simp only [Act.put, List.setIfInBounds_toArray, List.set_cons_zero, List.set_cons_succ]
  refine qstep (o := ⟨some 9, _, _, _, _, _⟩) (v := ?_) (by rfl) (fun wq hSw => ?_) ?_
  rotate_left
  · (go_simp; try with_reducible rfl)
  try simp only [Act.put, List.setIfInBounds_toArray, List.set_cons_zero, List.set_cons_succ]
  refine qstep (o := ⟨some 10, _, _, _, _, _⟩) (v := ?_) (by rfl) (fun wq hSw => ?_) ?_
  rotate_left
  · (go_simp; try with_reducible rfl)
  try simp only [Act.put, List.setIfInBounds_toArray, List.set_cons_zero, List.set_cons_succ]
  refine qstep (o := ⟨some 11, _, _, _, _, _⟩) (v := ?_) (by rfl) (fun wq hSw => ?_) ?_
  rotate_left
  · (have hb9 := hSw.blk HB2.out (fun h => h); have x10 := hb9.cell (i := 10) rfl; have hh9 := hSw.blk HHB.out (fun h => h); have y4 := hh9.cell (i := 4) rfl; have y5 := hh9.cell (i := 5) rfl; clear hb9 hh9; go_simp; try with_reducible rfl)
  try simp only [Act.put, List.setIfInBounds_toArray, List.set_cons_zero, List.set_cons_succ]
  refine qstep (o := ⟨some 12, _, _, _, _, _⟩) (v := ?_) (by rfl) (fun wq hSw => ?_) ?_
  rotate_left
  · (go_simp; try with_reducible rfl)
  try simp only [Act.put, List.setIfInBounds_toArray, List.set_cons_zero, List.set_cons_succ]
  refine qstep (o := ⟨some 13, _, _, _, _, _⟩) (v := ?_) (by rfl) (fun wq hSw => ?_) ?_
  rotate_left
  · (go_simp; try with_reducible rfl)
  try simp only [Act.put, List.setIfInBounds_toArray, List.set_cons_zero, List.set_cons_succ]
  refine qstep (o := ⟨some 14, _, _, _, _, _⟩) (v := ?_) (by rfl) (fun wq hSw => ?_) ?_
  rotate_left
  · (have hb9 := hSw.blk HB2.out (fun h => h); have x10 := hb9.cell (i := 10) rfl; have hh9 := hSw.blk HHB.out (fun h => h); have y4 := hh9.cell (i := 4) rfl; have y5 := hh9.cell (i := 5) rfl; clear hb9 hh9; go_simp; try with_reducible rfl)
  try simp only [Act.put, List.setIfInBounds_toArray, List.set_cons_zero, List.set_cons_succ]
  refine qstep (o := ⟨some 15, _, _, _, _, _⟩) (v := ?_) (by rfl) (fun wq hSw => ?_) ?_
  rotate_left
  · (go_simp; try with_reducible rfl)
  try simp only [Act.put, List.setIfInBounds_toArray, List.set_cons_zero, List.set_cons_succ]
  refine qstep (o := ⟨some 16, _, _, _, _, _⟩) (v := ?_) (by rfl) (fun wq hSw => ?_) ?_
  rotate_left
  · (go_simp; try with_reducible rfl)
  try simp only [Act.put, List.setIfInBounds_toArray, List.set_cons_zero, List.set_cons_succ]
  refine qstep (o := ⟨some 17, _, _, _, _, _⟩) (v := ?_) (by rfl) (fun wq hSw => ?_) ?_
  rotate_left
  · (have hb9 := hSw.blk HB2.out (fun h => h); have x10 := hb9.cell (i := 10) rfl; have hh9 := hSw.blk HHB.out (fun h => h); have y4 := hh9.cell (i := 4) rfl; have y5 := hh9.cell (i := 5) rfl; clear hb9 hh9; go_simp; try with_reducible rfl)
  try simp only [Act.put, List.setIfInBounds_toArray, List.set_cons_zero, List.set_cons_succ]
  refine qcall (o := ⟨some 18, _, _, _, _, _⟩) (v := .bool true) (by rfl) (fun wq hSw => ?_) (fun wq hSw => Calls.mono (within_of key s.hi s.la true _ hcov) ?_) ?_
  · (go_simp; try with_reducible rfl)
  · rintro e w9 ⟨rfl, rfl⟩; exact ⟨rfl, hSw⟩
  try simp only [Act.put, List.setIfInBounds_toArray, List.set_cons_zero, List.set_cons_succ]
  refine wpQuiet_nil ?_
  intro wz hHeld
  have HB3 := Lib.hid (hHeld.blk HB2.out (fun h => h))
  have HH3 := Lib.hid (hHeld.blk HHB.out (fun h => h))
  have HK3 := Lib.hid ((HK2.out.trans hHeld (fun _ _ h => h)).mono (T := fun i => i = x) (fun _ h => h.elim))
  clear hHeld HB2 HHB HK2
  have hb3 := HB3.out
  have y11 := hb3.cell (i := 11) rfl
  have z11 := hb3.frozen 11
  clear hb3
  go_wp2
  (try simp only [Exit.inBlock, Exit.then]); refine bodyPost_ret (results_none rfl _ _ _) rfl ?_
  exact ⟨rfl, HB3.out.set 11 (.int .i64 4), HK3.out.setCell (a := ⟨x, 11, none⟩) (fun _ => rfl) (.int .i64 4)⟩

set_option maxHeartbeats 2000000 in
theorem lk_own_yes (F : Nat) (h4 : 4 ≤ F) (h6 : F ≤ 6) (fb fd : Int) (hd : Reach3 10 fb fd) (key : ByteArray) (x : Nat) (q b nid : Nat) (fp ap rp : Value) (s : Cs) (wd : Nat) (h40 : s.xs.length ≤ 1099511627776) (hcov : (s.la || ltB key.toList s.hi.toList) = true) (w : World) (h : Blk w x 98 (lkv F fb fd key 2 (fp) nid (ap) (.pointer (some ⟨q, 0, none⟩)) (rp))) (Q : World → Prop) (hS : Calls Tryz.prog 59 #[.pointer (some ⟨q, 0, none⟩), .pointer (some ⟨b, 0, none⟩)] w fun e w' => e = .returned (.bool true) ∧ Q w') (hQ : ∀ w', Q w' → Blk w' x 98 (lkv F fb fd key 2 (fp) nid (ap) (.pointer (some ⟨q, 0, none⟩)) (rp)) ∧ ∃ Z, Con Z w' 1 2 100 100 200 F 1000 10 fb fd q 149 nid s [.int .u64 (wd : Int), .bool true]) :
    Calls Tryz.prog 20 #[.pointer (some ⟨x, 0, none⟩), .pointer (some ⟨b, 0, none⟩)] w fun e w' => e = .returned (.bool true) ∧ ∃ w1, Q w1 ∧ Blk w' x 98 (lkv F fb fd key 4 (fp) nid (ap) (.pointer (some ⟨q, 0, none⟩)) (rp)) ∧ Kept (fun i => i = x) w1 w' := by
  have x11 := h.cell (i := 11) rfl
  have x15 := h.cell (i := 15) rfl
  have HS := Lib.hid hS
  have HQ := Lib.hid hQ
  clear h hS hQ
  go_enter Tryz.func20, Tryz.ntmps20
  go_wp2_with fail
  refine HS.out.mono ?_; rintro e w1 ⟨rfl, hq1⟩
  obtain ⟨hB1, Z, hC1⟩ := HQ.out w1 hq1
  have HB1 := Lib.hid hB1
  have HC1 := Lib.hid hC1
  have HQ1 := Lib.hid hq1
  clear hq1 x11 x15 HQ hB1 hC1
  go_wp2_with fail
  refine (lcheck_yes Z F h4 h6 fb fd hd key x 2 fp nid q ap rp s wd w1 HB1.out HC1.out h40 hcov).mono ?_; rintro e w2 ⟨rfl, hB2, hK2⟩
  have y11 := hB2.cell (i := 11) rfl
  have HB2 := Lib.hid hB2
  have HK2 := Lib.hid hK2
  clear hB2 hK2 HB1 HC1
  go_wp2
  go_ret
  exact ⟨rfl, w1, HQ1.out, HB2.out, HK2.out⟩

set_option maxHeartbeats 4000000 in
theorem lcheck_no (Z : Nat → Prop) (F : Nat) (h4 : 4 ≤ F) (h6 : F ≤ 6) (fb fd : Int) (hd : Reach3 10 fb fd) (key : ByteArray) (x : Nat) (ph : Int) (fp : Value) (nid q : Nat) (ap rp : Value) (s : Cs) (wd : Nat) (w : World) (h : Blk w x 98 (lkv F fb fd key ph (fp) nid (ap) (.pointer (some ⟨q, 0, none⟩)) (rp))) (hC : Con Z w 1 2 100 100 200 F 1000 10 fb fd q 149 nid s [.int .u64 (wd : Int), .bool true]) (h40 : s.xs.length ≤ 1099511627776) (hcov : (s.la || ltB key.toList s.hi.toList) = false) :
    Calls Tryz.prog 60 #[.pointer (some ⟨x, 0, none⟩)] w fun e w' => ∃ q2, e = .returned (.tuple #[]) ∧ Blk w' x 98 (lkv F fb fd key 3 (fp) nid (ap) (.pointer (some ⟨q, 0, none⟩)) (.pointer (some ⟨q2, 0, none⟩))) ∧ RelB w' q2 (nla F nid) wd false ∧ w.heap.size ≤ q2 ∧ Kept (fun i => i = x) w w' := by
  have x15 := h.cell (i := 15) rfl
  have HB := Lib.hid h
  have HC := Lib.hid hC
  clear h hC
  go_enter Tryz.func60, Tryz.ntmps60
  go_wp2_with fail
  refine (oheld_any Z 1 2 100 100 200 F 1000 10 fb fd q nid s wd _ HC.out h40).mono ?_; rintro e w1 ⟨A, c, rfl, hR, hA, hK1⟩
  have HB1 := Lib.hid (hK1.blk HB.out (fun h => h))
  have HK1 := Lib.hid hK1
  clear hR hA hK1 HB x15
  go_upto_region 1 with fail
  have hal := (Kept.refl (fun _ => False) w1).alloc (.cells #[.int .u64 (nid : Int), .int .u64 (wd : Int), .int .i64 (s.lv : Int), .slice A s.xs.length c, .string s.hi, .bool s.la, .int .u64 (s.rt : Int)] 56)
  have HHB := Lib.hid (Blk.new w1 [.int .u64 (nid : Int), .int .u64 (wd : Int), .int .i64 (s.lv : Int), .slice A s.xs.length c, .string s.hi, .bool s.la, .int .u64 (s.rt : Int)] 56)
  have HB2 := Lib.hid (hal.blk HB1.out (fun h => h))
  have hxl := HB1.out.lt
  have HK2 := Lib.hid (HK1.out.trans hal (fun _ _ h => h))
  clear hal HB1 HK1
  generalize w1.alloc (.cells #[.int .u64 (nid : Int), .int .u64 (wd : Int), .int .i64 (s.lv : Int), .slice A s.xs.length c, .string s.hi, .bool s.la, .int .u64 (s.rt : Int)] 56) = W at *
  generalize w1.heap.size = r1 at *
  refine qregion (fun w' => Kept (fun _ => False) W w') (by kernel_rfl) (by kernel_rfl) (Kept.refl _ _).drew ?_
  refine qstep (o := ⟨some 8, _, _, _, _, _⟩) (v := ?_) (by rfl) (fun wq hSw => ?_) ?_
  rotate_left
  · (go_simp; try with_reducible rfl)
  try simp only [Act.put, List.setIfInBounds_toArray, List.set_cons_zero, List.set_cons_succ]
  refine qstep (o := ⟨some 9, _, _, _, _, _⟩) (v := ?_) (by rfl) (fun wq hSw => ?_) ?_
  rotate_left
  · (go_simp; try with_reducible rfl)
  try simp only [Act.put, List.setIfInBounds_toArray, List.set_cons_zero, List.set_cons_succ]
  refine qstep (o := ⟨some 10, _, _, _, _, _⟩) (v := ?_) (by rfl) (fun wq hSw => ?_) ?_
  rotate_left
  · (go_simp; try with_reducible rfl)
  try simp only [Act.put, List.setIfInBounds_toArray, List.set_cons_zero, List.set_cons_succ]
  refine qstep (o := ⟨some 11, _, _, _, _, _⟩) (v := ?_) (by rfl) (fun wq hSw => ?_) ?_
  rotate_left
  · (have hb9 := hSw.blk HB2.out (fun h => h); have x10 := hb9.cell (i := 10) rfl; have hh9 := hSw.blk HHB.out (fun h => h); have y4 := hh9.cell (i := 4) rfl; have y5 := hh9.cell (i := 5) rfl; clear hb9 hh9; go_simp; try with_reducible rfl)
  try simp only [Act.put, List.setIfInBounds_toArray, List.set_cons_zero, List.set_cons_succ]
  refine qstep (o := ⟨some 12, _, _, _, _, _⟩) (v := ?_) (by rfl) (fun wq hSw => ?_) ?_
  rotate_left
  · (go_simp; try with_reducible rfl)
  try simp only [Act.put, List.setIfInBounds_toArray, List.set_cons_zero, List.set_cons_succ]
  refine qstep (o := ⟨some 13, _, _, _, _, _⟩) (v := ?_) (by rfl) (fun wq hSw => ?_) ?_
  rotate_left
  · (go_simp; try with_reducible rfl)
  try simp only [Act.put, List.setIfInBounds_toArray, List.set_cons_zero, List.set_cons_succ]
  refine qstep (o := ⟨some 14, _, _, _, _, _⟩) (v := ?_) (by rfl) (fun wq hSw => ?_) ?_
  rotate_left
  · (have hb9 := hSw.blk HB2.out (fun h => h); have x10 := hb9.cell (i := 10) rfl; have hh9 := hSw.blk HHB.out (fun h => h); have y4 := hh9.cell (i := 4) rfl; have y5 := hh9.cell (i := 5) rfl; clear hb9 hh9; go_simp; try with_reducible rfl)
  try simp only [Act.put, List.setIfInBounds_toArray, List.set_cons_zero, List.set_cons_succ]
  refine qstep (o := ⟨some 15, _, _, _, _, _⟩) (v := ?_) (by rfl) (fun wq hSw => ?_) ?_
  rotate_left
  · (go_simp; try with_reducible rfl)
  try simp only [Act.put, List.setIfInBounds_toArray, List.set_cons_zero, List.set_cons_succ]
  refine qstep (o := ⟨some 16, _, _, _, _, _⟩) (v := ?_) (by rfl) (fun wq hSw => ?_) ?_
  rotate_left
  · (go_simp; try with_reducible rfl)
  try simp only [Act.put, List.setIfInBounds_toArray, List.set_cons_zero, List.set_cons_succ]
  refine qstep (o := ⟨some 17, _, _, _, _, _⟩) (v := ?_) (by rfl) (fun wq hSw => ?_) ?_
  rotate_left
  · (have hb9 := hSw.blk HB2.out (fun h => h); have x10 := hb9.cell (i := 10) rfl; have hh9 := hSw.blk HHB.out (fun h => h); have y4 := hh9.cell (i := 4) rfl; have y5 := hh9.cell (i := 5) rfl; clear hb9 hh9; go_simp; try with_reducible rfl)
  try simp only [Act.put, List.setIfInBounds_toArray, List.set_cons_zero, List.set_cons_succ]
  refine qcall (o := ⟨some 18, _, _, _, _, _⟩) (v := .bool false) (by rfl) (fun wq hSw => ?_) (fun wq hSw => Calls.mono (within_of key s.hi s.la false _ hcov) ?_) ?_
  · (go_simp; try with_reducible rfl)
  · rintro e w9 ⟨rfl, rfl⟩; exact ⟨rfl, hSw⟩
  try simp only [Act.put, List.setIfInBounds_toArray, List.set_cons_zero, List.set_cons_succ]
  refine wpQuiet_nil ?_
  intro wz hHeld
  have HB3 := Lib.hid (hHeld.blk HB2.out (fun h => h))
  have HH3 := Lib.hid (hHeld.blk HHB.out (fun h => h))
  have HK3 := Lib.hid ((HK2.out.trans hHeld (fun _ _ h => h)).mono (T := fun i => i = x) (fun _ h => h.elim))
  clear hHeld HB2 HHB HK2
  have HRX := Lib.hid (show r1 ≠ x by omega)
  go_upto_region 3 with fail
  refine wp_region_held_drew (S := (fun w' => (∃ (ph9 : Int) (rp9 : Value), Blk w' x 98 (lkv F fb fd key ph9 fp nid ap (.pointer (some ⟨q, 0, none⟩)) rp9)) ∧ Blk w' r1 56 [.int .u64 (nid : Int), .int .u64 (wd : Int), .int .i64 (s.lv : Int), .slice A s.xs.length c, .string s.hi, .bool s.la, .int .u64 (s.rt : Int)])) (by kernel_rfl) ?_ (fun hHeld => ?_)
  · exact ⟨⟨_, _, HB3.out.of (w' := wz.drew) rfl⟩, HH3.out.of (w' := wz.drew) rfl⟩
  have HBc := Lib.hid (HB3.out.of (w' := wz.drew) rfl)
  have HHc := Lib.hid (HH3.out.of (w' := wz.drew) rfl)
  have HKc := Lib.hid (HK3.out.drew)
  generalize wz.drew = G at *
  refine wpAnyH_take (i := 0) (oi := ⟨some 22, _, _, _, _, _⟩) (v := ?_) rfl (by kernel_rfl) (by kernel_rfl) (by kernel_rfl) (fun _ _ _ h => h) (Or.inl ⟨by rfl, ?_⟩) hHeld ?_
  rotate_left
  · (intro wq hSw; go_simp; try with_reducible rfl)
  try simp only [Act.put, List.setIfInBounds_toArray, List.set_cons_zero, List.set_cons_succ]
  refine wpAnyH_take (i := 1) (oi := ⟨some 23, _, _, _, _, _⟩) (v := ?_) rfl (by kernel_rfl) (by kernel_rfl) (by kernel_rfl) (fun _ _ _ h => h) (Or.inl ⟨by rfl, ?_⟩) hHeld ?_
  rotate_left
  · (intro wq hSw; go_simp; try with_reducible rfl)
  try simp only [Act.put, List.setIfInBounds_toArray, List.set_cons_zero, List.set_cons_succ]
  refine wpAnyH_take (i := 2) (oi := ⟨some 24, _, _, _, _, _⟩) (v := ?_) rfl (by kernel_rfl) (by kernel_rfl) (by kernel_rfl) (fun _ _ _ h => h) (Or.inl ⟨by rfl, ?_⟩) hHeld ?_
  rotate_left
  · (intro wq hSw; go_simp; try with_reducible rfl)
  try simp only [Act.put, List.setIfInBounds_toArray, List.set_cons_zero, List.set_cons_succ]
  refine wpAnyH_take (i := 3) (oi := ⟨some 25, _, _, _, _, _⟩) (v := ?_) rfl (by kernel_rfl) (by kernel_rfl) (by kernel_rfl) (fun _ _ _ h => h) (Or.inl ⟨by rfl, ?_⟩) hHeld ?_
  rotate_left
  · (intro wq hSw; go_simp; try with_reducible rfl)
  try simp only [Act.put, List.setIfInBounds_toArray, List.set_cons_zero, List.set_cons_succ]
  refine wpAnyH_take (i := 4) (oi := ⟨some 26, _, _, _, _, _⟩) (v := ?_) rfl (by kernel_rfl) (by kernel_rfl) (by kernel_rfl) (fun _ _ _ h => h) (Or.inl ⟨by rfl, ?_⟩) hHeld ?_
  rotate_left
  · (intro wq hSw; go_simp; try with_reducible rfl)
  try simp only [Act.put, List.setIfInBounds_toArray, List.set_cons_zero, List.set_cons_succ]
  refine wpAnyH_take (i := 5) (oi := ⟨some 27, _, _, _, _, _⟩) (v := ?_) rfl (by kernel_rfl) (by kernel_rfl) (by kernel_rfl) (fun _ _ _ h => h) (Or.inl ⟨by rfl, ?_⟩) hHeld ?_
  rotate_left
  · (intro wq hSw; obtain ⟨⟨ph9, rp9, hb9⟩, hh9⟩ := hSw; have x0 := hb9.cell (i := 0) rfl; have x1 := hb9.cell (i := 1) rfl; have x2 := hb9.cell (i := 2) rfl; have x3 := hb9.cell (i := 3) rfl; have x4 := hb9.cell (i := 4) rfl; have x5 := hb9.cell (i := 5) rfl; have x6 := hb9.cell (i := 6) rfl; have x7 := hb9.cell (i := 7) rfl; have x8 := hb9.cell (i := 8) rfl; have x9 := hb9.cell (i := 9) rfl; have y0 := hh9.cell (i := 0) rfl; have y1 := hh9.cell (i := 1) rfl; clear hb9 hh9; go_simp; try with_reducible rfl)
  try simp only [Act.put, List.setIfInBounds_toArray, List.set_cons_zero, List.set_cons_succ]
  refine wpAnyH_take (i := 6) (oi := ⟨some 28, _, _, _, _, _⟩) (v := ?_) rfl (by kernel_rfl) (by kernel_rfl) (by kernel_rfl) (fun _ _ _ h => h) (Or.inl ⟨by rfl, ?_⟩) hHeld ?_
  rotate_left
  · (intro wq hSw; go_simp; try with_reducible rfl)
  try simp only [Act.put, List.setIfInBounds_toArray, List.set_cons_zero, List.set_cons_succ]
  refine wpAnyH_take (i := 7) (oi := ⟨some 29, _, _, _, _, _⟩) (v := ?_) rfl (by kernel_rfl) (by kernel_rfl) (by kernel_rfl) (fun _ _ _ h => h) (Or.inl ⟨by rfl, ?_⟩) hHeld ?_
  rotate_left
  · (intro wq hSw; obtain ⟨⟨ph9, rp9, hb9⟩, hh9⟩ := hSw; have x0 := hb9.cell (i := 0) rfl; have x1 := hb9.cell (i := 1) rfl; have x2 := hb9.cell (i := 2) rfl; have x3 := hb9.cell (i := 3) rfl; have x4 := hb9.cell (i := 4) rfl; have x5 := hb9.cell (i := 5) rfl; have x6 := hb9.cell (i := 6) rfl; have x7 := hb9.cell (i := 7) rfl; have x8 := hb9.cell (i := 8) rfl; have x9 := hb9.cell (i := 9) rfl; have y0 := hh9.cell (i := 0) rfl; have y1 := hh9.cell (i := 1) rfl; clear hb9 hh9; go_simp; try with_reducible rfl)
  try simp only [Act.put, List.setIfInBounds_toArray, List.set_cons_zero, List.set_cons_succ]
  refine wpAnyH_take (i := 9) (oi := ⟨some 31, _, _, _, _, _⟩) (v := ?_) rfl (by kernel_rfl) (by kernel_rfl) (by kernel_rfl) (fun _ _ _ h => h) (Or.inl ⟨by rfl, ?_⟩) hHeld ?_
  rotate_left
  · (intro wq hSw; go_simp; try with_reducible rfl)
  try simp only [Act.put, List.setIfInBounds_toArray, List.set_cons_zero, List.set_cons_succ]
  refine wpAnyH_take (i := 10) (oi := ⟨some 32, _, _, _, _, _⟩) (v := ?_) rfl (by kernel_rfl) (by kernel_rfl) (by kernel_rfl) (fun _ _ _ h => h) (Or.inl ⟨by rfl, ?_⟩) hHeld ?_
  rotate_left
  · (intro wq hSw; obtain ⟨⟨ph9, rp9, hb9⟩, hh9⟩ := hSw; have x0 := hb9.cell (i := 0) rfl; have x1 := hb9.cell (i := 1) rfl; have x2 := hb9.cell (i := 2) rfl; have x3 := hb9.cell (i := 3) rfl; have x4 := hb9.cell (i := 4) rfl; have x5 := hb9.cell (i := 5) rfl; have x6 := hb9.cell (i := 6) rfl; have x7 := hb9.cell (i := 7) rfl; have x8 := hb9.cell (i := 8) rfl; have x9 := hb9.cell (i := 9) rfl; have y0 := hh9.cell (i := 0) rfl; have y1 := hh9.cell (i := 1) rfl; clear hb9 hh9; go_simp; try with_reducible rfl)
  try simp only [Act.put, List.setIfInBounds_toArray, List.set_cons_zero, List.set_cons_succ]
  refine wpAnyH_ready (rs := [8]) (by kernel_rfl) (by simp) ?_
  refine AllReadyH.cons (o := ⟨some 30, _, _, _, _, _⟩) rfl (fun KK hK => ?_) AllReadyH.nil
  go_simp
  go_at_call 46
  refine (latch_to 1 2 100 100 200 F 1000 10 fb fd (limF h4 h6) hd (nid : Int) (nla F nid) rfl _).mono ?_; rintro e w4 ⟨rfl, hK4⟩
  replace HBc := Lib.hid (hK4.blk HBc.out (fun h => h))
  replace HHc := Lib.hid (hK4.blk HHc.out (fun h => h))
  replace HKc := Lib.hid (HKc.out.trans hK4 (fun _ _ h => h.elim))
  clear hK4
  refine hK.out _ _ ?_ (fun hHeld2 => ?_)
  · exact ⟨⟨_, _, HBc.out⟩, HHc.out⟩
  clear hK KK hHeld
  have hHeld := hHeld2
  clear hHeld2
  try simp only [Act.put, List.setIfInBounds_toArray, List.set_cons_zero, List.set_cons_succ]
  refine wpAnyH_ready (rs := [11]) (by kernel_rfl) (by simp) ?_
  refine AllReadyH.cons (o := ⟨some 33, _, _, _, _, _⟩) rfl (fun KK hK => ?_) AllReadyH.nil
  go_simp
  go_at_call 19
  refine (newRelease_any (nla F nid) wd _).mono ?_; rintro e w5 ⟨rfl, hw5⟩
  have hal := (Kept.refl (fun _ => False) w4).alloc (.cells ⟨relv (nla F nid) wd false⟩ 112)
  have hNB : RelB (w4.alloc (.cells ⟨relv (nla F nid) wd false⟩ 112)) w4.heap.size (nla F nid) wd false := Blk.new w4 (relv (nla F nid) wd false) 112
  rw [hw5] at hal hNB
  have HQ2 := Lib.hid HKc.out.size
  have HXQ := Lib.hid (show x ≠ w4.heap.size by have := HBc.out.lt; omega)
  have HHQ := Lib.hid (show r1 ≠ x from by have := HRX.out; exact this)
  generalize w4.heap.size = q2 at *
  replace HBc := Lib.hid (hal.blk HBc.out (fun h => h))
  replace HHc := Lib.hid (hal.blk HHc.out (fun h => h))
  replace HKc := Lib.hid (HKc.out.trans hal (fun _ _ h => h.elim))
  have HN := Lib.hid hNB
  clear hal hNB hw5
  have hb2 := HBc.out
  have y16 := hb2.cell (i := 16) rfl
  have z16 := hb2.frozen 16
  clear hb2
  refine hK.out _ _ ?_ (fun hHeld2 => ?_)
  · exact ⟨⟨_, _, HBc.out⟩, HHc.out⟩
  clear hK KK hHeld
  have hHeld := hHeld2
  clear hHeld2
  try simp only [Act.put, List.setIfInBounds_toArray, List.set_cons_zero, List.set_cons_succ]
  refine wpAnyH_take (i := 12) (oi := ⟨some 34, _, _, _, _, _⟩) (v := ?_) rfl (by kernel_rfl) (by kernel_rfl) (by kernel_rfl) (fun _ _ _ h => h) (Or.inl ⟨by rfl, ?_⟩) hHeld ?_
  rotate_left
  · (intro wq hSw; go_simp; try with_reducible rfl)
  try simp only [Act.put, List.setIfInBounds_toArray, List.set_cons_zero, List.set_cons_succ]
  refine wpAnyH_take (i := 13) (oi := ⟨some 35, _, _, _, _, _⟩) (v := ?_) rfl (by kernel_rfl) (by kernel_rfl) (by kernel_rfl) (fun _ _ _ h => h) (Or.inl ⟨by rfl, ?_⟩) hHeld ?_
  rotate_left
  · (intro wq hSw; go_simp; try with_reducible rfl)
  try simp only [Act.put, List.setIfInBounds_toArray, List.set_cons_zero, List.set_cons_succ]
  refine wpAnyH_ready (rs := [14]) (by kernel_rfl) (by simp) ?_
  refine AllReadyH.cons (o := ⟨none, _, _, _, _, _⟩) rfl (fun KK hK => ?_) AllReadyH.nil
  go_simp
  replace HBc := Lib.hid (HBc.out.set 16 (.pointer (some ⟨q2, 0, none⟩)))
  have hK4 := (Kept.refl (fun i => i = x) w5).setCell (a := ⟨x, 16, none⟩) (fun _ => rfl) (.pointer (some ⟨q2, 0, none⟩))
  replace HKc := Lib.hid (HKc.out.trans hK4 (fun _ _ h => h))
  replace HN := Lib.hid (hK4.blk HN.out (fun e => HXQ.out e.symm))
  replace HHc := Lib.hid (hK4.blk HHc.out HHQ.out)
  clear hK4 y16 z16
  generalize w5.setCell ⟨x, 16, none⟩ (.pointer (some ⟨q2, 0, none⟩)) = w6 at *
  have hb2 := HBc.out
  have y11 := hb2.cell (i := 11) rfl
  have z11 := hb2.frozen 11
  clear hb2
  refine hK.out _ _ ?_ (fun hHeld2 => ?_)
  · exact ⟨⟨_, _, HBc.out⟩, HHc.out⟩
  clear hK KK hHeld
  have hHeld := hHeld2
  clear hHeld2
  try simp only [Act.put, List.setIfInBounds_toArray, List.set_cons_zero, List.set_cons_succ]
  refine wpAnyH_take (i := 15) (oi := ⟨some 36, _, _, _, _, _⟩) (v := ?_) rfl (by kernel_rfl) (by kernel_rfl) (by kernel_rfl) (fun _ _ _ h => h) (Or.inl ⟨by rfl, ?_⟩) hHeld ?_
  rotate_left
  · (intro wq hSw; go_simp; try with_reducible rfl)
  try simp only [Act.put, List.setIfInBounds_toArray, List.set_cons_zero, List.set_cons_succ]
  refine wpAnyH_take (i := 16) (oi := ⟨some 37, _, _, _, _, _⟩) (v := ?_) rfl (by kernel_rfl) (by kernel_rfl) (by kernel_rfl) (fun _ _ _ h => h) (Or.inl ⟨by rfl, ?_⟩) hHeld ?_
  rotate_left
  · (intro wq hSw; go_simp; try with_reducible rfl)
  try simp only [Act.put, List.setIfInBounds_toArray, List.set_cons_zero, List.set_cons_succ]
  refine wpAnyH_ready (rs := [17]) (by kernel_rfl) (by simp) ?_
  refine AllReadyH.cons (o := ⟨none, _, _, _, _, _⟩) rfl (fun KK hK => ?_) AllReadyH.nil
  go_simp
  replace HBc := Lib.hid (HBc.out.set 11 (.int .i64 3))
  have hK4 := (Kept.refl (fun i => i = x) w6).setCell (a := ⟨x, 11, none⟩) (fun _ => rfl) (.int .i64 3)
  replace HKc := Lib.hid (HKc.out.trans hK4 (fun _ _ h => h))
  replace HN := Lib.hid (hK4.blk HN.out (fun e => HXQ.out e.symm))
  replace HHc := Lib.hid (hK4.blk HHc.out HHQ.out)
  clear hK4 y11 z11
  generalize w6.setCell ⟨x, 11, none⟩ (.int .i64 3) = w7 at *
  refine hK.out _ _ ?_ (fun hHeld2 => ?_)
  · exact ⟨⟨_, _, HBc.out⟩, HHc.out⟩
  clear hK KK hHeld
  have hHeld := hHeld2
  clear hHeld2
  try simp only [Act.put, List.setIfInBounds_toArray, List.set_cons_zero, List.set_cons_succ]
  refine wpAnyH_done (by kernel_rfl) ?_ _
  clear hHeld
  go_wp2
  go_end0
  exact ⟨q2, rfl, HBc.out, HN.out, HQ2.out, HKc.out⟩

set_option maxHeartbeats 2000000 in
theorem lk_own_no (F : Nat) (h4 : 4 ≤ F) (h6 : F ≤ 6) (fb fd : Int) (hd : Reach3 10 fb fd) (key : ByteArray) (x : Nat) (q b nid : Nat) (fp ap rp : Value) (s : Cs) (wd : Nat) (h40 : s.xs.length ≤ 1099511627776) (hcov : (s.la || ltB key.toList s.hi.toList) = false) (w : World) (h : Blk w x 98 (lkv F fb fd key 2 (fp) nid (ap) (.pointer (some ⟨q, 0, none⟩)) (rp))) (Q : World → Prop) (hS : Calls Tryz.prog 59 #[.pointer (some ⟨q, 0, none⟩), .pointer (some ⟨b, 0, none⟩)] w fun e w' => e = .returned (.bool true) ∧ Q w') (hQ : ∀ w', Q w' → Blk w' x 98 (lkv F fb fd key 2 (fp) nid (ap) (.pointer (some ⟨q, 0, none⟩)) (rp)) ∧ ∃ Z, Con Z w' 1 2 100 100 200 F 1000 10 fb fd q 149 nid s [.int .u64 (wd : Int), .bool true]) :
    Calls Tryz.prog 20 #[.pointer (some ⟨x, 0, none⟩), .pointer (some ⟨b, 0, none⟩)] w fun e w' => e = .returned (.bool false) ∧ ∃ w1 q2, Q w1 ∧ Blk w' x 98 (lkv F fb fd key 3 (fp) nid (ap) (.pointer (some ⟨q, 0, none⟩)) (.pointer (some ⟨q2, 0, none⟩))) ∧ RelB w' q2 (nla F nid) wd false ∧ w1.heap.size ≤ q2 ∧ Kept (fun i => i = x) w1 w' := by
  have x11 := h.cell (i := 11) rfl
  have x15 := h.cell (i := 15) rfl
  have HS := Lib.hid hS
  have HQ := Lib.hid hQ
  clear h hS hQ
  go_enter Tryz.func20, Tryz.ntmps20
  go_wp2_with fail
  refine HS.out.mono ?_; rintro e w1 ⟨rfl, hq1⟩
  obtain ⟨hB1, Z, hC1⟩ := HQ.out w1 hq1
  have HB1 := Lib.hid hB1
  have HC1 := Lib.hid hC1
  have HQ1 := Lib.hid hq1
  clear hq1 x11 x15 HQ hB1 hC1
  go_wp2_with fail
  refine (lcheck_no Z F h4 h6 fb fd hd key x 2 fp nid q ap rp s wd w1 HB1.out HC1.out h40 hcov).mono ?_; rintro e w2 ⟨q2, rfl, hB2, hR2, hq2, hK2⟩
  have y11 := hB2.cell (i := 11) rfl
  have HB2 := Lib.hid hB2
  have HR2 := Lib.hid hR2
  have HQ2 := Lib.hid hq2
  have HK2 := Lib.hid hK2
  clear hB2 hR2 hq2 hK2 HB1 HC1
  go_wp2
  go_ret
  exact ⟨rfl, w1, q2, HQ1.out, HB2.out, HR2.out, HQ2.out, HK2.out⟩

theorem hfieldP (i wd lv : Int) (A : Option Addr) (n c : Nat) (hi : ByteArray) (la : Bool) (rt : Int) (w : World) : (Instr.field 56 (.agg #[.int .u64 i, .int .u64 wd, .int .i64 lv, .slice A n c, .string hi, .bool la, .int .u64 rt]) 2).run Tryz.prog w = .ok (.agg #[.int .i64 lv, .slice A n c, .string hi, .bool la, .int .u64 rt]) w := by kernel_rfl
theorem pfieldR (lv : Int) (A : Option Addr) (n c : Nat) (hi : ByteArray) (la : Bool) (rt : Int) (w : World) : (Instr.field 40 (.agg #[.int .i64 lv, .slice A n c, .string hi, .bool la, .int .u64 rt]) 4).run Tryz.prog w = .ok (.int .u64 rt) w := by kernel_rfl
set_option maxHeartbeats 2000000 in
theorem lk_rel_yes (F : Nat) (h4 : 4 ≤ F) (h6 : F ≤ 6) (fb fd : Int) (hd : Reach3 10 fb fd) (key : ByteArray) (x : Nat) (q r b nid : Nat) (fp ap : Value) (s : Cs) (wd : Nat) (h40 : s.xs.length ≤ 1099511627776) (hr1 : 1 ≤ s.rt) (hr2 : s.rt ≤ 100) (w : World) (h : Blk w x 98 (lkv F fb fd key 3 (fp) nid (ap) (.pointer (some ⟨q, 0, none⟩)) (.pointer (some ⟨r, 0, none⟩)))) (Q : World → Prop) (hS : Calls Tryz.prog 25 #[.pointer (some ⟨r, 0, none⟩), .pointer (some ⟨b, 0, none⟩)] w fun e w' => e = .returned (.bool true) ∧ Q w') (hQ : ∀ w', Q w' → Blk w' x 98 (lkv F fb fd key 3 (fp) nid (ap) (.pointer (some ⟨q, 0, none⟩)) (.pointer (some ⟨r, 0, none⟩))) ∧ ∃ Z, Con Z w' 1 2 100 100 200 F 1000 10 fb fd q 149 nid s [.int .u64 (wd : Int), .bool true]) :
    Calls Tryz.prog 20 #[.pointer (some ⟨x, 0, none⟩), .pointer (some ⟨b, 0, none⟩)] w fun e w' => e = .returned (.bool false) ∧ ∃ w1 q2, Q w1 ∧ Blk w' x 98 (lkv F fb fd key 1 (fp) s.rt (.pointer (some ⟨q2, 0, none⟩)) (.pointer (some ⟨q, 0, none⟩)) (.pointer (some ⟨r, 0, none⟩))) ∧ AcqB w' q2 (nla F s.rt) 0 ⟨#[]⟩ 0 false false ∧ w1.heap.size ≤ q2 ∧ Kept (fun i => i = x) w1 w' := by
  have x11 := h.cell (i := 11) rfl
  have x16 := h.cell (i := 16) rfl
  have HS := Lib.hid hS
  have HQ := Lib.hid hQ
  clear h hS hQ
  have p1 := hfieldP (nid : Int) (wd : Int) (s.lv : Int)
  have p2 := pfieldR (s.lv : Int)
  go_enter Tryz.func20, Tryz.ntmps20
  go_wp2_with fail
  refine HS.out.mono ?_; rintro e w1 ⟨rfl, hq1⟩
  obtain ⟨hB1, Z, hC1⟩ := HQ.out w1 hq1
  have HB1 := Lib.hid hB1
  have HC1 := Lib.hid hC1
  have HQ1 := Lib.hid hq1
  clear hq1 x11 x16 HQ hB1 hC1
  have x15 := HB1.out.cell (i := 15) rfl
  go_wp2_with fail
  refine (oheld_any Z 1 2 100 100 200 F 1000 10 fb fd q nid s wd _ HC1.out h40).mono ?_; rintro e w2 ⟨A, c, rfl, -, -, hK2⟩
  have HB2 := Lib.hid (hK2.blk HB1.out (fun h => h))
  have HK2 := Lib.hid (hK2.mono (T := fun i => i = x) (fun _ h => h.elim))
  clear hK2 HB1 HC1 x15
  go_wp2_with fail
  refine (lgoTo_yes F h4 h6 fb fd hd key x 3 fp nid ap (.pointer (some ⟨q, 0, none⟩)) (.pointer (some ⟨r, 0, none⟩)) _ HB2.out s.rt hr1 hr2).mono ?_; rintro e w4 ⟨q2, rfl, hB4, hA4, hq4, hK4⟩
  have HB4 := Lib.hid hB4
  have HA4 := Lib.hid hA4
  have HQ4 := Lib.hid (Nat.le_trans HK2.out.size hq4)
  have HK4 := Lib.hid (HK2.out.trans hK4 (fun _ _ h => h))
  clear hB4 hA4 hq4 hK4 HB2 HK2
  have y11 := HB4.out.cell (i := 11) rfl
  go_wp2
  go_ret
  exact ⟨rfl, w1, q2, HQ1.out, HB4.out, HA4.out, HQ4.out, HK4.out⟩

set_option maxHeartbeats 2000000 in
theorem lk_rel_no (F : Nat) (h4 : 4 ≤ F) (h6 : F ≤ 6) (fb fd : Int) (hd : Reach3 10 fb fd) (key : ByteArray) (x : Nat) (q r b nid : Nat) (fp ap : Value) (s : Cs) (wd : Nat) (h40 : s.xs.length ≤ 1099511627776) (hr0 : s.rt = 0 ∨ 100 < s.rt) (w : World) (h : Blk w x 98 (lkv F fb fd key 3 (fp) nid (ap) (.pointer (some ⟨q, 0, none⟩)) (.pointer (some ⟨r, 0, none⟩)))) (Q : World → Prop) (hS : Calls Tryz.prog 25 #[.pointer (some ⟨r, 0, none⟩), .pointer (some ⟨b, 0, none⟩)] w fun e w' => e = .returned (.bool true) ∧ Q w') (hQ : ∀ w', Q w' → Blk w' x 98 (lkv F fb fd key 3 (fp) nid (ap) (.pointer (some ⟨q, 0, none⟩)) (.pointer (some ⟨r, 0, none⟩))) ∧ ∃ Z, Con Z w' 1 2 100 100 200 F 1000 10 fb fd q 149 nid s [.int .u64 (wd : Int), .bool true]) :
    Calls Tryz.prog 20 #[.pointer (some ⟨x, 0, none⟩), .pointer (some ⟨b, 0, none⟩)] w fun e w' => e = .returned (.bool true) ∧ ∃ w1, Q w1 ∧ Blk w' x 98 (lkv F fb fd key 5 (fp) nid (ap) (.pointer (some ⟨q, 0, none⟩)) (.pointer (some ⟨r, 0, none⟩))) ∧ Kept (fun i => i = x) w1 w' := by
  have x11 := h.cell (i := 11) rfl
  have x16 := h.cell (i := 16) rfl
  have HS := Lib.hid hS
  have HQ := Lib.hid hQ
  clear h hS hQ
  have p1 := hfieldP (nid : Int) (wd : Int) (s.lv : Int)
  have p2 := pfieldR (s.lv : Int)
  go_enter Tryz.func20, Tryz.ntmps20
  go_wp2_with fail
  refine HS.out.mono ?_; rintro e w1 ⟨rfl, hq1⟩
  obtain ⟨hB1, Z, hC1⟩ := HQ.out w1 hq1
  have HB1 := Lib.hid hB1
  have HC1 := Lib.hid hC1
  have HQ1 := Lib.hid hq1
  clear hq1 x11 x16 HQ hB1 hC1
  have x15 := HB1.out.cell (i := 15) rfl
  go_wp2_with fail
  refine (oheld_any Z 1 2 100 100 200 F 1000 10 fb fd q nid s wd _ HC1.out h40).mono ?_; rintro e w2 ⟨A, c, rfl, -, -, hK2⟩
  have HB2 := Lib.hid (hK2.blk HB1.out (fun h => h))
  have HK2 := Lib.hid (hK2.mono (T := fun i => i = x) (fun _ h => h.elim))
  clear hK2 HB1 HC1 x15
  go_wp2_with fail
  refine (lgoTo_no F h4 h6 fb fd hd key x 3 fp nid ap (.pointer (some ⟨q, 0, none⟩)) (.pointer (some ⟨r, 0, none⟩)) _ HB2.out s.rt hr0).mono ?_; rintro e w4 ⟨rfl, hB4, hK4⟩
  have HB4 := Lib.hid hB4
  have HK4 := Lib.hid (HK2.out.trans hK4 (fun _ _ h => h))
  clear hB4 hK4 HB2 HK2
  have y11 := HB4.out.cell (i := 11) rfl
  go_wp2
  go_ret
  exact ⟨rfl, w1, HQ1.out, HB4.out, HK4.out⟩

set_option maxHeartbeats 1000000 in
theorem lk_done_4 (F : Nat) (fb fd : Int) (key : ByteArray) (x b nid : Nat) (fp ap op rp : Value) (w : World) (h : Blk w x 98 (lkv F fb fd key 4 (fp) nid (ap) (op) (rp))) :
    Calls Tryz.prog 20 #[.pointer (some ⟨x, 0, none⟩), .pointer (some ⟨b, 0, none⟩)] w fun e w' => e = .returned (.bool true) ∧ w = w' := by
  have x11 := h.cell (i := 11) rfl
  clear h
  go_enter Tryz.func20, Tryz.ntmps20
  go_wp2
  go_ret
  exact ⟨rfl, rfl⟩

set_option maxHeartbeats 1000000 in
theorem lk_done_5 (F : Nat) (fb fd : Int) (key : ByteArray) (x b nid : Nat) (fp ap op rp : Value) (w : World) (h : Blk w x 98 (lkv F fb fd key 5 (fp) nid (ap) (op) (rp))) :
    Calls Tryz.prog 20 #[.pointer (some ⟨x, 0, none⟩), .pointer (some ⟨b, 0, none⟩)] w fun e w' => e = .returned (.bool true) ∧ w = w' := by
  have x11 := h.cell (i := 11) rfl
  clear h
  go_enter Tryz.func20, Tryz.ntmps20
  go_wp2
  go_ret
  exact ⟨rfl, rfl⟩

set_option maxHeartbeats 2000000 in
theorem lheld_yes (Z : Nat → Prop) (F : Nat) (fb fd : Int) (key : ByteArray) (x q nid : Nat) (fp ap rp : Value) (s : Cs) (wd : Nat) (h40 : s.xs.length ≤ 1099511627776) (w : World) (h : Blk w x 98 (lkv F fb fd key 4 (fp) nid (ap) (.pointer (some ⟨q, 0, none⟩)) (rp))) (hC : Con Z w 1 2 100 100 200 F 1000 10 fb fd q 149 nid s [.int .u64 (wd : Int), .bool true]) :
    Calls Tryz.prog 21 #[.pointer (some ⟨x, 0, none⟩)] w fun e w' => ∃ A c, e = .returned (.agg #[.int .u64 (nid : Int), .int .u64 (wd : Int), .int .i64 (s.lv : Int), .slice A s.xs.length c, .string s.hi, .bool s.la, .int .u64 (s.rt : Int)]) ∧ Rs w' A c s.xs ∧ (∀ a, A = some a → w.heap.size ≤ a.block) ∧ Kept (fun _ => False) w w' := by
  have y11 := (h.alloc (.cells #[.int .u64 0, .int .u64 0, .int .i64 0, .slice none 0 0, .string ⟨#[]⟩, .bool false, .int .u64 0] 56)).cell (i := 11) rfl
  have y15 := (h.alloc (.cells #[.int .u64 0, .int .u64 0, .int .i64 0, .slice none 0 0, .string ⟨#[]⟩, .bool false, .int .u64 0] 56)).cell (i := 15) rfl
  have HB := Lib.hid h
  have HC := Lib.hid hC
  clear h hC
  go_enter Tryz.func21, Tryz.ntmps21
  go_wp2_with fail
  have hal := (Kept.refl (fun _ => False) w).alloc (.cells #[.int .u64 0, .int .u64 0, .int .i64 0, .slice none 0 0, .string ⟨#[]⟩, .bool false, .int .u64 0] 56)
  have HK1 := Lib.hid hal
  have HNB := Lib.hid (Blk.new w [.int .u64 0, .int .u64 0, .int .i64 0, .slice none 0 0, .string ⟨#[]⟩, .bool false, .int .u64 0] 56)
  replace HC := Lib.hid (HC.out.kept hal (fun _ _ h => h))
  clear hal y11 y15
  have hsz : w.heap.size < (w.alloc (.cells #[.int .u64 0, .int .u64 0, .int .i64 0, .slice none 0 0, .string ⟨#[]⟩, .bool false, .int .u64 0] 56)).heap.size := by rw [nblk_alloc]; omega
  generalize hr0 : w.heap.size = r0 at *
  have HR0 := Lib.hid hr0
  clear hr0
  generalize w.alloc (.cells #[.int .u64 0, .int .u64 0, .int .i64 0, .slice none 0 0, .string ⟨#[]⟩, .bool false, .int .u64 0] 56) = W at *
  refine (oheld_any Z 1 2 100 100 200 F 1000 10 fb fd q nid s wd _ HC.out h40).mono ?_; rintro e w2 ⟨A, c, rfl, hRs, hA, hK2⟩
  have hb2 := hK2.blk HNB.out (fun h => h)
  have x0 := hb2.cell (i := 0) rfl
  have x1 := hb2.cell (i := 1) rfl
  have x2 := hb2.cell (i := 2) rfl
  have x3 := hb2.cell (i := 3) rfl
  have x4 := hb2.cell (i := 4) rfl
  have x5 := hb2.cell (i := 5) rfl
  have x6 := hb2.cell (i := 6) rfl
  have z0 := hb2.frozen 0
  have z1 := hb2.frozen 1
  have z2 := hb2.frozen 2
  have z3 := hb2.frozen 3
  have z4 := hb2.frozen 4
  have z5 := hb2.frozen 5
  have z6 := hb2.frozen 6
  have hB5 := (((((((hb2).set 0 (.int .u64 (nid : Int))).set 1 (.int .u64 (wd : Int))).set 2 (.int .i64 (s.lv : Int))).set 3 (.slice A s.xs.length c)).set 4 (.string s.hi)).set 5 (.bool s.la)).set 6 (.int .u64 (s.rt : Int))
  have hK5 := (((((((Kept.refl (fun i => i = r0) w2).setCell (a := ⟨r0, 0, none⟩) (fun _ => rfl) (.int .u64 (nid : Int))).setCell (a := ⟨r0, 1, none⟩) (fun _ => rfl) (.int .u64 (wd : Int))).setCell (a := ⟨r0, 2, none⟩) (fun _ => rfl) (.int .i64 (s.lv : Int))).setCell (a := ⟨r0, 3, none⟩) (fun _ => rfl) (.slice A s.xs.length c)).setCell (a := ⟨r0, 4, none⟩) (fun _ => rfl) (.string s.hi)).setCell (a := ⟨r0, 5, none⟩) (fun _ => rfl) (.bool s.la)).setCell (a := ⟨r0, 6, none⟩) (fun _ => rfl) (.int .u64 (s.rt : Int))
  have HRs := Lib.hid (hRs.keptF hK5 (fun a ha e => by have := hA a ha; omega))
  have HKK := Lib.hid (((HK1.out.trans hK2 (fun _ _ h => h)).mono (T := fun i => i = r0) (fun _ h => h.elim)).trans hK5 (fun _ _ h => h))
  have HA := Lib.hid hA
  have HB5 := Lib.hid hB5
  clear hB5 hK5 hRs hA hK2 hb2 HNB HK1 HC
  go_wp2
  have hq := HB5.out
  have q0 := hq.cell (i := 0) rfl
  have q1 := hq.cell (i := 1) rfl
  have q2 := hq.cell (i := 2) rfl
  have q3 := hq.cell (i := 3) rfl
  have q4 := hq.cell (i := 4) rfl
  have q5 := hq.cell (i := 5) rfl
  have q6 := hq.cell (i := 6) rfl
  refine bodyPost_ret (v := .agg #[.int .u64 (nid : Int), .int .u64 (wd : Int), .int .i64 (s.lv : Int), .slice A s.xs.length c, .string s.hi, .bool s.la, .int .u64 (s.rt : Int)]) ?_ rfl ?_
  · simp [results, Tryz.results21, go_sem, q0, q1, q2, q3, q4, q5, q6]
  refine ⟨A, c, rfl, HRs.out, fun a ha => by have := HA.out a ha; have := HR0.out; omega, ?_⟩
  exact ⟨HKK.out.os, HKK.out.tape, HKK.out.output, HKK.out.size, fun i hi _ => HKK.out.block i hi (fun e => by have := HR0.out; omega)⟩

set_option maxHeartbeats 2000000 in
theorem lheld_no (F : Nat) (fb fd : Int) (key : ByteArray) (x nid : Nat) (ph : Int) (hph : ph ≠ 4) (fp ap op rp : Value) (w : World) (h : Blk w x 98 (lkv F fb fd key ph (fp) nid (ap) (op) (rp))) :
    Calls Tryz.prog 21 #[.pointer (some ⟨x, 0, none⟩)] w fun e w' => e = .returned (.agg #[.int .u64 0, .int .u64 0, .int .i64 0, .slice none 0 0, .string ⟨#[]⟩, .bool false, .int .u64 0]) ∧ Kept (fun _ => False) w w' := by
  have y11 := (h.alloc (.cells #[.int .u64 0, .int .u64 0, .int .i64 0, .slice none 0 0, .string ⟨#[]⟩, .bool false, .int .u64 0] 56)).cell (i := 11) rfl
  have p0 : ((ph : Int) == 4) = false := by simp; omega
  clear h
  go_enter Tryz.func21, Tryz.ntmps21
  go_wp2
  have hNB := Blk.new w [.int .u64 0, .int .u64 0, .int .i64 0, .slice none 0 0, .string ⟨#[]⟩, .bool false, .int .u64 0] 56
  have q0 := hNB.cell (i := 0) rfl
  have q1 := hNB.cell (i := 1) rfl
  have q2 := hNB.cell (i := 2) rfl
  have q3 := hNB.cell (i := 3) rfl
  have q4 := hNB.cell (i := 4) rfl
  have q5 := hNB.cell (i := 5) rfl
  have q6 := hNB.cell (i := 6) rfl
  clear hNB
  refine bodyPost_ret (v := .agg #[.int .u64 0, .int .u64 0, .int .i64 0, .slice none 0 0, .string ⟨#[]⟩, .bool false, .int .u64 0]) ?_ rfl ⟨rfl, ?_⟩
  · simp [results, Tryz.results21, go_sem, q0, q1, q2, q3, q4, q5, q6]
  · exact (Kept.refl _ _).alloc _

end Go.Proofs.YtkpbbnpfdighjaaGreat
