/-
  The writer's step of ChainLookupIsStable, an arm at a time. Condition: lists within the model's reach.
-/
import Derived.Test.YtpamjbjgckaedaaChnWayW
import Derived.Test.YtpamjbjgckaedaaChnLawD
import Derived.Test.YtpamjbjgckaedaaChnWri
namespace Go.Proofs.Ytpamjbjgckaedaa
open Go.RowKit Go.Deep Plain
set_option linter.unusedVariables false

set_option maxRecDepth 100000 in
set_option maxHeartbeats 3000000 in
theorem wr_end (p b : Nat) (A : Option Addr) (c n at' top stm tm : Nat) (w : World) (q : Nat) (h : Blk w p 67 (wrv b A c n at' top stm tm (.pointer (some ⟨q, 0, none⟩)) (.pointer none) true)) (xs : List Stp) (hxn : xs.length = n) (hR : Rp w A c xs) (hat : at' < n) (h20 : n ≤ 1000) (g : Nat) (l : List Cel) (k c1 : Nat) (u : ByteArray × Bool) (hm : Mem w b g l k) (hpq : p ≠ q ∧ p ≠ b ∧ p ≠ g) (hk : k < 9223372036854775808) (hst : tm ≤ stm ∧ stm < 4611686018427387904) (hW : Wm 100 200 810 910 1510 l tm top c1 u) (hI : WiAt 1 2 100 100 200 4 1000 10 810 910 w q tm top l 4) (hpw : p < w.heap.size) :
    Calls Try.prog 31 #[.pointer (some ⟨p, 0, none⟩)] w fun e w' => e = .returned (.tuple #[]) ∧ ∃ l' c' stm', Wm 100 200 810 910 1510 l' tm top c' u ∧ Mem w' b g l' (k + 1) ∧ tm ≤ stm' ∧ stm' ≤ stm + 1 ∧ Blk w' p 67 (wrv b A c n (at' + 1) top stm' tm (.pointer none) (.pointer none) false) ∧ Kept (fun i => i = p ∨ i = b ∨ i = g) w w' := by
  have HR := Lib.hid hR
  have HI := Lib.hid hI
  have HM := Lib.hid hm
  clear hR hI hm
  have hge : decide ((n : Int) ≤ (at' : Int)) = false := by simp; omega
  have hlt2 : (at' : Int) < (n : Int) := by omega
  have HB := Lib.hid h
  clear h
  go_enter Try.func31, Try.ntmps31
  go_wp2_with fail
  refine qregion (fun w' => Kept (fun _ => False) w w' ∧ Blk w' p 67 (wrv b A c n at' top stm tm (.pointer (some ⟨q, 0, none⟩)) (.pointer none) true)) (by kernel_rfl) (by kernel_rfl) ⟨(Kept.refl _ _).drew, HB.out⟩ ?_
  refine qstep (o := ⟨some 5, _, _, _, _, _⟩) (v := ?_) (by rfl) (fun wq hSw => ?_) ?_
  rotate_left
  · (go_simp; try with_reducible rfl)
  try simp only [Act.put, List.setIfInBounds_toArray, List.set_cons_zero, List.set_cons_succ]
  refine qstep (o := ⟨some 6, _, _, _, _, _⟩) (v := ?_) (by rfl) (fun wq hSw => ?_) ?_
  rotate_left
  · (go_simp; try with_reducible rfl)
  try simp only [Act.put, List.setIfInBounds_toArray, List.set_cons_zero, List.set_cons_succ]
  refine qstep (o := ⟨some 7, _, _, _, _, _⟩) (v := ?_) (by rfl) (fun wq hSw => ?_) ?_
  rotate_left
  · (go_simp; try with_reducible rfl)
  try simp only [Act.put, List.setIfInBounds_toArray, List.set_cons_zero, List.set_cons_succ]
  refine qstep (o := ⟨some 8, _, _, _, _, _⟩) (v := ?_) (by rfl) (fun wq hSw => ?_) ?_
  rotate_left
  · (have hb9 := hSw.2; have x11 := hb9.cell (i := 11) rfl; have x12 := hb9.cell (i := 12) rfl; clear hb9; go_simp; try with_reducible rfl)
  try simp only [Act.put, List.setIfInBounds_toArray, List.set_cons_zero, List.set_cons_succ]
  refine qstep (o := ⟨some 9, _, _, _, _, _⟩) (v := ?_) (by rfl) (fun wq hSw => ?_) ?_
  rotate_left
  · (go_simp; try with_reducible rfl)
  try simp only [Act.put, List.setIfInBounds_toArray, List.set_cons_zero, List.set_cons_succ]
  refine qstep (o := ⟨some 10, _, _, _, _, _⟩) (v := ?_) (by rfl) (fun wq hSw => ?_) ?_
  rotate_left
  · (go_simp; try with_reducible rfl)
  try simp only [Act.put, List.setIfInBounds_toArray, List.set_cons_zero, List.set_cons_succ]
  refine qstep (o := ⟨some 11, _, _, _, _, _⟩) (v := ?_) (by rfl) (fun wq hSw => ?_) ?_
  rotate_left
  · (go_simp; try with_reducible rfl)
  try simp only [Act.put, List.setIfInBounds_toArray, List.set_cons_zero, List.set_cons_succ]
  refine qstep (o := ⟨some 12, _, _, _, _, _⟩) (v := ?_) (by rfl) (fun wq hSw => ?_) ?_
  rotate_left
  · (have hb9 := hSw.2; have x11 := hb9.cell (i := 11) rfl; have x12 := hb9.cell (i := 12) rfl; clear hb9; go_simp; try with_reducible rfl)
  try simp only [Act.put, List.setIfInBounds_toArray, List.set_cons_zero, List.set_cons_succ]
  refine qstep (o := ⟨some 13, _, _, _, _, _⟩) (v := ?_) (by rfl) (fun wq hSw => ?_) ?_
  rotate_left
  · (go_simp; try with_reducible rfl)
  try simp only [Act.put, List.setIfInBounds_toArray, List.set_cons_zero, List.set_cons_succ]
  refine qstep (o := ⟨some 14, _, _, _, _, _⟩) (v := .bool false) (by rfl) (fun wq hSw => ?_) ?_
  · (go_simp; try first | (with_reducible rfl) | (simp; omega) | (intros; omega) | simp [*])
  try simp only [Act.put, List.setIfInBounds_toArray, List.set_cons_zero, List.set_cons_succ]
  refine wpQuiet_nil ?_
  intro wz hHeld
  obtain ⟨hK, hQ⟩ := hHeld
  have HK := Lib.hid hK
  have HQ := Lib.hid hQ
  clear hK hQ HB
  have hxr := HR.out.kept HK.out (fun _ _ h => h)
  obtain ⟨kd, v, dl, fl, hxj⟩ : ∃ kd v dl fl, xs[at']? = some (kd, v, dl, fl) := ⟨_, _, _, _, List.getElem?_eq_getElem (by omega)⟩
  obtain ⟨ga, off, rfl, hga, hcell⟩ := hxr.at (by omega)
  have HCs := Lib.hid (hcell at' _ hxj)
  clear hxr hcell
  rename World => wd
  go_wp2_with fail
  have HQc := Lib.hid (HQ.out.of (w' := wd.drew) rfl)
  have HKc := Lib.hid ((Kept.refl (fun _ => False) wd).drew)
  refine wp_region_held_drew (S := (fun w' => Blk w' p 67 (wrv b (some ⟨ga, off, none⟩) c n at' top stm tm (.pointer (some ⟨q, 0, none⟩)) (.pointer none) true) ∧ w'.cell? ⟨ga, off + at' * 4, none⟩ = some (.int .i64 kd) ∧ w'.cell? ⟨ga, off + at' * 4 + 1, none⟩ = some (.string v) ∧ w'.cell? ⟨ga, off + at' * 4 + 2, none⟩ = some (.bool dl) ∧ w'.cell? ⟨ga, off + at' * 4 + 3, none⟩ = some (.int .u8 ((fl : Nat) : Int)))) (by kernel_rfl) ?_ (fun hHeld => ?_)
  · exact ⟨HQc.out, cells4 HCs.out HKc.out hga⟩
  refine wpAnyH_take (i := 0) (oi := ⟨some 15, _, _, _, _, _⟩) (v := ?_) rfl (by kernel_rfl) (by kernel_rfl) (by kernel_rfl) (fun _ _ _ h => h) (Or.inl ⟨by rfl, ?_⟩) hHeld ?_
  rotate_left
  · (intro wq hSw; go_simp; try with_reducible rfl)
  try simp only [Act.put, List.setIfInBounds_toArray, List.set_cons_zero, List.set_cons_succ]
  refine wpAnyH_take (i := 1) (oi := ⟨some 16, _, _, _, _, _⟩) (v := ?_) rfl (by kernel_rfl) (by kernel_rfl) (by kernel_rfl) (fun _ _ _ h => h) (Or.inl ⟨by rfl, ?_⟩) hHeld ?_
  rotate_left
  · (intro wq hSw; go_simp; try with_reducible rfl)
  try simp only [Act.put, List.setIfInBounds_toArray, List.set_cons_zero, List.set_cons_succ]
  refine wpAnyH_take (i := 2) (oi := ⟨some 17, _, _, _, _, _⟩) (v := ?_) rfl (by kernel_rfl) (by kernel_rfl) (by kernel_rfl) (fun _ _ _ h => h) (Or.inl ⟨by rfl, ?_⟩) hHeld ?_
  rotate_left
  · (intro wq hSw; go_simp; try with_reducible rfl)
  try simp only [Act.put, List.setIfInBounds_toArray, List.set_cons_zero, List.set_cons_succ]
  refine wpAnyH_take (i := 3) (oi := ⟨some 18, _, _, _, _, _⟩) (v := ?_) rfl (by kernel_rfl) (by kernel_rfl) (by kernel_rfl) (fun _ _ _ h => h) (Or.inl ⟨by rfl, ?_⟩) hHeld ?_
  rotate_left
  · (intro wq hSw; obtain ⟨hb9, c0, c1, c2', c3⟩ := hSw; have x11 := hb9.cell (i := 11) rfl; have x12 := hb9.cell (i := 12) rfl; clear hb9; go_simp; try with_reducible rfl)
  try simp only [Act.put, List.setIfInBounds_toArray, List.set_cons_zero, List.set_cons_succ]
  refine wpAnyH_take (i := 4) (oi := ⟨some 19, _, _, _, _, _⟩) (v := ?_) rfl (by kernel_rfl) (by kernel_rfl) (by kernel_rfl) (fun _ _ _ h => h) (Or.inl ⟨by rfl, ?_⟩) hHeld ?_
  rotate_left
  · (intro wq hSw; go_simp; try with_reducible rfl)
  try simp only [Act.put, List.setIfInBounds_toArray, List.set_cons_zero, List.set_cons_succ]
  refine wpAnyH_take (i := 5) (oi := ⟨some 20, _, _, _, _, _⟩) (v := ?_) rfl (by kernel_rfl) (by kernel_rfl) (by kernel_rfl) (fun _ _ _ h => h) (Or.inl ⟨by rfl, ?_⟩) hHeld ?_
  rotate_left
  · (intro wq hSw; go_simp; try with_reducible rfl)
  try simp only [Act.put, List.setIfInBounds_toArray, List.set_cons_zero, List.set_cons_succ]
  refine wpAnyH_take (i := 6) (oi := ⟨some 21, _, _, _, _, _⟩) (v := ?_) rfl (by kernel_rfl) (by kernel_rfl) (by kernel_rfl) (fun _ _ _ h => h) (Or.inl ⟨by rfl, ?_⟩) hHeld ?_
  rotate_left
  · (intro wq hSw; go_simp; try with_reducible rfl)
  try simp only [Act.put, List.setIfInBounds_toArray, List.set_cons_zero, List.set_cons_succ]
  refine wpAnyH_take (i := 7) (oi := ⟨some 22, _, _, _, _, _⟩) (v := ?_) rfl (by kernel_rfl) (by kernel_rfl) (by kernel_rfl) (fun _ _ _ h => h) (Or.inl ⟨by rfl, ?_⟩) hHeld ?_
  rotate_left
  · (intro wq hSw; obtain ⟨hb9, c0, c1, c2', c3⟩ := hSw; have x11 := hb9.cell (i := 11) rfl; have x12 := hb9.cell (i := 12) rfl; clear hb9; go_simp; try with_reducible rfl)
  try simp only [Act.put, List.setIfInBounds_toArray, List.set_cons_zero, List.set_cons_succ]
  refine wpAnyH_take (i := 8) (oi := ⟨some 23, _, _, _, _, _⟩) (v := .pointer (some ⟨ga, off + at' * 4, none⟩)) rfl (by kernel_rfl) (by kernel_rfl) (by kernel_rfl) (fun _ _ _ h => h) (Or.inl ⟨by rfl, ?_⟩) hHeld ?_
  · (intro wq hSw; go_simp; try first | (with_reducible rfl) | (simp; omega) | (intros; omega) | simp [*])
  try simp only [Act.put, List.setIfInBounds_toArray, List.set_cons_zero, List.set_cons_succ]
  refine wpAnyH_take (i := 9) (oi := ⟨some 24, _, _, _, _, _⟩) (v := ?_) rfl (by kernel_rfl) (by kernel_rfl) (by kernel_rfl) (fun _ _ _ h => h) (Or.inl ⟨by rfl, ?_⟩) hHeld ?_
  rotate_left
  · (intro wq hSw; obtain ⟨hb9, c0, c1, c2', c3⟩ := hSw; have x11 := hb9.cell (i := 11) rfl; have x12 := hb9.cell (i := 12) rfl; clear hb9; go_simp; try with_reducible rfl)
  try simp only [Act.put, List.setIfInBounds_toArray, List.set_cons_zero, List.set_cons_succ]
  refine wpAnyH_ready (rs := [10]) (by kernel_rfl) (by simp) ?_
  refine AllReadyH.cons (o := ⟨some 2, _, _, _, _, _⟩) rfl (fun KK hK => ?_) (AllReadyH.nil)
  go_simp
  replace HQc := Lib.hid (HQc.out.alloc (.cells #[.int .i64 0, .string ⟨#[]⟩, .bool false, .int .u8 0] 36))
  replace HKc := Lib.hid (HKc.out.alloc (.cells #[.int .i64 0, .string ⟨#[]⟩, .bool false, .int .u8 0] 36))
  refine hK.out _ _ ?_ (fun hHeld2 => ?_)
  · exact ⟨HQc.out, cells4 HCs.out HKc.out hga⟩
  clear hK KK hHeld
  have hHeld := hHeld2
  clear hHeld2
  try simp only [Act.put, List.setIfInBounds_toArray, List.set_cons_zero, List.set_cons_succ]
  refine wpAnyH_ready (rs := [11]) (by kernel_rfl) (by simp) ?_
  refine AllReadyH.cons (o := ⟨none, _, _, _, _, _⟩) rfl (fun KK hK => ?_) (AllReadyH.nil)
  go_simp
  replace HQc := Lib.hid (show Blk ((wd.alloc (.cells #[.int .i64 kd, .string v, .bool dl, .int .u8 (fl : Int)] 36)).drew) p 67 (wrv b (some ⟨ga, off, none⟩) c n at' top stm tm (.pointer (some ⟨q, 0, none⟩)) (.pointer none) true) from (HQ.out.alloc (.cells #[.int .i64 kd, .string v, .bool dl, .int .u8 (fl : Int)] 36)))
  replace HKc := Lib.hid (((Kept.refl (fun _ => False) wd).alloc (.cells #[.int .i64 kd, .string v, .bool dl, .int .u8 (fl : Int)] 36)).drew)
  refine hK.out _ _ ?_ (fun hHeld2 => ?_)
  · exact ⟨HQc.out, cells4 HCs.out HKc.out hga⟩
  clear hK KK hHeld
  have hHeld := hHeld2
  clear hHeld2
  try simp only [Act.put, List.setIfInBounds_toArray, List.set_cons_zero, List.set_cons_succ]
  refine wpAnyH_done (by kernel_rfl) ?_ _
  clear hHeld
  have HS := Lib.hid (show Blk ((wd.alloc (.cells #[.int .i64 kd, .string v, .bool dl, .int .u8 (fl : Int)] 36)).drew) wd.heap.size 36 [.int .i64 kd, .string v, .bool dl, .int .u8 (fl : Int)] from Blk.new wd [.int .i64 kd, .string v, .bool dl, .int .u8 (fl : Int)] 36)
  have HK2 := Lib.hid (HK.out.trans HKc.out (fun _ _ h => h))
  have hszd := HK.out.size
  clear HQ HK HKc HCs
  replace HM := Lib.hid (HM.out.kept HK2.out (fun h => h) (fun h => h))
  obtain ⟨old, r0, M0, vK, hIb, -, -, ho, -, -⟩ := HI.out
  obtain ⟨hr0, ho1, ho2⟩ := ho rfl
  replace hr0 := hr0.symm
  subst hr0
  clear ho HI
  have HI := Lib.hid (HK2.out.blk hIb (fun h => h))
  have hszw := HK2.out.size
  have HKw := Lib.hid (HK2.out.mono (T := fun i => i = p ∨ i = b ∨ i = g) (fun _ h => h.elim))
  have x18 := HQc.out.cell (i := 18) rfl
  have s0 := HS.out.cell (i := 0) rfl
  obtain ⟨r, hr, hr6⟩ := mod_ex kd 6 (by omega)
  clear hIb HK2 HS
  go_wp2_with fail
  refine (mod_of kd 6 r _ (by omega) (by omega) hr).mono ?_; rintro e w5 ⟨rfl, rfl⟩
  generalize (wd.alloc (.cells #[.int .i64 kd, .string v, .bool dl, .int .u8 (fl : Int)] 36)).drew = V at *
  by_cases h4 : r = 4
  · have h4' : ((r : Int) == 4) = true := by simp; omega
    go_wp2_with fail
    clear h4' x18 s0
    refine qtail 9 (fun w' => Kept (fun _ => False) V w' ∧ Blk w' p 67 (wrv b (some ⟨ga, off, none⟩) c n at' top stm tm (.pointer (some ⟨q, 0, none⟩)) (.pointer none) true) ∧ Blk w' q 93 (insv 1 2 100 100 200 4 1000 10 810 910 1 top vK M0 old 4)) (by kernel_rfl) (by kernel_rfl) ⟨(Kept.refl _ _).drew, HQc.out.of rfl, HI.out.of rfl⟩ ?_
    simp only [List.take_succ_cons, List.take_zero, List.drop_succ_cons, List.drop_zero]
    refine qstep (o := ⟨some 55, _, _, _, _, _⟩) (v := ?_) (by rfl) (fun wq hSw => ?_) ?_
    rotate_left
    · (go_simp; try with_reducible rfl)
    try simp only [Act.put, List.setIfInBounds_toArray, List.set_cons_zero, List.set_cons_succ]
    refine qstep (o := ⟨some 56, _, _, _, _, _⟩) (v := ?_) (by rfl) (fun wq hSw => ?_) ?_
    rotate_left
    · (go_simp; try with_reducible rfl)
    try simp only [Act.put, List.setIfInBounds_toArray, List.set_cons_zero, List.set_cons_succ]
    refine qstep (o := ⟨some 57, _, _, _, _, _⟩) (v := ?_) (by rfl) (fun wq hSw => ?_) ?_
    rotate_left
    · (go_simp; try with_reducible rfl)
    try simp only [Act.put, List.setIfInBounds_toArray, List.set_cons_zero, List.set_cons_succ]
    refine qstep (o := ⟨some 58, _, _, _, _, _⟩) (v := ?_) (by rfl) (fun wq hSw => ?_) ?_
    rotate_left
    · (have hb9 := hSw.2.1; have x0 := hb9.cell (i := 0) rfl; have x1 := hb9.cell (i := 1) rfl; have x2 := hb9.cell (i := 2) rfl; have x3 := hb9.cell (i := 3) rfl; have x4 := hb9.cell (i := 4) rfl; have x5 := hb9.cell (i := 5) rfl; have x6 := hb9.cell (i := 6) rfl; have x7 := hb9.cell (i := 7) rfl; have x8 := hb9.cell (i := 8) rfl; have x9 := hb9.cell (i := 9) rfl; clear hb9; go_simp; try with_reducible rfl)
    try simp only [Act.put, List.setIfInBounds_toArray, List.set_cons_zero, List.set_cons_succ]
    refine qstep (o := ⟨some 59, _, _, _, _, _⟩) (v := ?_) (by rfl) (fun wq hSw => ?_) ?_
    rotate_left
    · (go_simp; try with_reducible rfl)
    try simp only [Act.put, List.setIfInBounds_toArray, List.set_cons_zero, List.set_cons_succ]
    refine qstep (o := ⟨some 60, _, _, _, _, _⟩) (v := ?_) (by rfl) (fun wq hSw => ?_) ?_
    rotate_left
    · (go_simp; try with_reducible rfl)
    try simp only [Act.put, List.setIfInBounds_toArray, List.set_cons_zero, List.set_cons_succ]
    refine qstep (o := ⟨some 61, _, _, _, _, _⟩) (v := ?_) (by rfl) (fun wq hSw => ?_) ?_
    rotate_left
    · (go_simp; try with_reducible rfl)
    try simp only [Act.put, List.setIfInBounds_toArray, List.set_cons_zero, List.set_cons_succ]
    refine qstep (o := ⟨some 62, _, _, _, _, _⟩) (v := ?_) (by rfl) (fun wq hSw => ?_) ?_
    rotate_left
    · (have hb9 := hSw.2.1; have x16 := hb9.cell (i := 16) rfl; clear hb9; go_simp; try with_reducible rfl)
    try simp only [Act.put, List.setIfInBounds_toArray, List.set_cons_zero, List.set_cons_succ]
    refine qcall (o := ⟨some 63, _, _, _, _, _⟩) (v := .int .u64 (old : Int)) (by rfl) (fun wq hSw => ?_) (fun wq hSw => Calls.mono (old_yes 1 2 100 100 200 4 1000 10 810 910 q 1 top vK M0 old 4 _ hSw.2.2 rfl) ?_) ?_
    · (go_simp; try with_reducible rfl)
    · rintro e w9 ⟨rfl, rfl⟩; exact ⟨rfl, hSw⟩
    try simp only [Act.put, List.setIfInBounds_toArray, List.set_cons_zero, List.set_cons_succ]
    refine wpQuiet_nil ?_
    intro wz hHeld
    obtain ⟨hK, -, -⟩ := hHeld
    replace HQc := Lib.hid (hK.blk HQc.out (fun h => h))
    replace HM := Lib.hid (HM.out.kept hK (fun h => h) (fun h => h))
    replace HKw := Lib.hid (HKw.out.trans hK (fun _ _ h => h.elim))
    clear hK HI
    have hszk := HKw.out.size
    go_wp2_with fail
    refine (newRestore_k old _).mono ?_; rintro e w6 ⟨q2, rfl, hq2, hQ2, hK⟩
    have hsz2 := HM.out.obj.lt
    have hsz3 := HM.out.row.lt
    replace HQc := Lib.hid (hK.blk HQc.out (fun h => h))
    replace HM := Lib.hid (HM.out.kept hK (fun h => h) (fun h => h))
    replace HKw := Lib.hid (HKw.out.trans hK (fun _ _ h => h.elim))
    have HQ2 := Lib.hid hQ2
    clear hQ2 hK
    have x10 := HQc.out.cell (i := 10) rfl
    go_wp2_with fail
    refine (stepRestore_any q2 _ old _ HQ2.out b g l k HM.out (by omega) (by omega) hk).mono ?_; rintro e w7 ⟨rfl, hM7, -, hK⟩
    clear x10 HQ2
    replace HQc := Lib.hid (hK.blk HQc.out (fun e => by rcases e with e | e | e <;> omega))
    replace HM := Lib.hid hM7
    replace HKw := Lib.hid (HKw.out.trans hK (fun i hi e => by rcases e with e | e | e <;> omega))
    have HWm := Lib.hid (hW.back kgeo (by omega) (c := old) ⟨ho1, by omega⟩ (K := ⟨#[]⟩) (M := 0))
    clear hM7 hK
    have hQe := HQc.out
    have y12 := hQe.cell (i := 12) rfl
    have u12 := hQe.frozen 12
    have y18 := hQe.cell (i := 18) rfl
    have u18 := hQe.frozen 18
    have y16 := hQe.cell (i := 16) rfl
    have u16 := hQe.frozen 16
    clear hQe
    go_wp2
    go_end0
    refine ⟨rfl, _, _, stm, HWm.out, ?_, by omega, by omega, ?_, ?_⟩
    · exact ((HM.out.farq (q := p) (by unfold Own; omega) _ _).farq (q := p) (by unfold Own; omega) _ _).farq (q := p) (by unfold Own; omega) _ _
    · exact ((HQc.out.set 12 _).set 18 _).set 16 _
    · exact ((HKw.out.setCell (fun _ => .inl rfl) _).setCell (fun _ => .inl rfl) _).setCell (fun _ => .inl rfl) _
  · have h4' : ((r : Int) == 4) = false := by simp; omega
    have y14 := HQc.out.cell (i := 14) rfl
    have u14 := HQc.out.frozen 14
    go_wp2_with fail
    clear h4' x18 s0 y14 u14 HI
    have HQd := Lib.hid (show Blk (V.setCell ⟨p, 14, none⟩ (.int .u64 ((stm : Int) + 1))) p 67 (wrv b (some ⟨ga, off, none⟩) c n at' top (stm + 1) tm (.pointer (some ⟨q, 0, none⟩)) (.pointer none) true) from HQc.out.set 14 (.int .u64 ((stm : Int) + 1)))
    have hK := (Kept.refl (fun i => i = p) V).setCell (a := ⟨p, 14, none⟩) (fun _ => rfl) (.int .u64 ((stm : Int) + 1))
    replace HM := Lib.hid (HM.out.farq (q := p) (by unfold Own; omega) 14 (.int .u64 ((stm : Int) + 1)))
    replace HKw := Lib.hid (HKw.out.trans hK (fun _ _ h => .inl h))
    replace HQc := HQd
    clear hK HQd
    generalize V.setCell ⟨p, 14, none⟩ (.int .u64 ((stm : Int) + 1)) = V2 at *
    refine qtail 12 (fun w' => Kept (fun _ => False) V2 w' ∧ Blk w' p 67 (wrv b (some ⟨ga, off, none⟩) c n at' top (stm + 1) tm (.pointer (some ⟨q, 0, none⟩)) (.pointer none) true)) (by kernel_rfl) (by kernel_rfl) ⟨(Kept.refl _ _).drew, HQc.out.of rfl⟩ ?_
    simp only [List.take_succ_cons, List.take_zero, List.drop_succ_cons, List.drop_zero]
    refine qstep (o := ⟨some 78, _, _, _, _, _⟩) (v := ?_) (by rfl) (fun wq hSw => ?_) ?_
    rotate_left
    · (go_simp; try with_reducible rfl)
    try simp only [Act.put, List.setIfInBounds_toArray, List.set_cons_zero, List.set_cons_succ]
    refine qstep (o := ⟨some 79, _, _, _, _, _⟩) (v := ?_) (by rfl) (fun wq hSw => ?_) ?_
    rotate_left
    · (go_simp; try with_reducible rfl)
    try simp only [Act.put, List.setIfInBounds_toArray, List.set_cons_zero, List.set_cons_succ]
    refine qstep (o := ⟨some 80, _, _, _, _, _⟩) (v := ?_) (by rfl) (fun wq hSw => ?_) ?_
    rotate_left
    · (go_simp; try with_reducible rfl)
    try simp only [Act.put, List.setIfInBounds_toArray, List.set_cons_zero, List.set_cons_succ]
    refine qstep (o := ⟨some 81, _, _, _, _, _⟩) (v := ?_) (by rfl) (fun wq hSw => ?_) ?_
    rotate_left
    · (have hb9 := hSw.2; have x0 := hb9.cell (i := 0) rfl; have x1 := hb9.cell (i := 1) rfl; have x2 := hb9.cell (i := 2) rfl; have x3 := hb9.cell (i := 3) rfl; have x4 := hb9.cell (i := 4) rfl; have x5 := hb9.cell (i := 5) rfl; have x6 := hb9.cell (i := 6) rfl; have x7 := hb9.cell (i := 7) rfl; have x8 := hb9.cell (i := 8) rfl; have x9 := hb9.cell (i := 9) rfl; clear hb9; go_simp; try with_reducible rfl)
    try simp only [Act.put, List.setIfInBounds_toArray, List.set_cons_zero, List.set_cons_succ]
    refine qstep (o := ⟨some 82, _, _, _, _, _⟩) (v := ?_) (by rfl) (fun wq hSw => ?_) ?_
    rotate_left
    · (go_simp; try with_reducible rfl)
    try simp only [Act.put, List.setIfInBounds_toArray, List.set_cons_zero, List.set_cons_succ]
    refine qstep (o := ⟨some 83, _, _, _, _, _⟩) (v := ?_) (by rfl) (fun wq hSw => ?_) ?_
    rotate_left
    · (go_simp; try with_reducible rfl)
    try simp only [Act.put, List.setIfInBounds_toArray, List.set_cons_zero, List.set_cons_succ]
    refine qstep (o := ⟨some 84, _, _, _, _, _⟩) (v := ?_) (by rfl) (fun wq hSw => ?_) ?_
    rotate_left
    · (go_simp; try with_reducible rfl)
    try simp only [Act.put, List.setIfInBounds_toArray, List.set_cons_zero, List.set_cons_succ]
    refine qstep (o := ⟨some 85, _, _, _, _, _⟩) (v := ?_) (by rfl) (fun wq hSw => ?_) ?_
    rotate_left
    · (have hb9 := hSw.2; have x13 := hb9.cell (i := 13) rfl; clear hb9; go_simp; try with_reducible rfl)
    try simp only [Act.put, List.setIfInBounds_toArray, List.set_cons_zero, List.set_cons_succ]
    refine qstep (o := ⟨some 86, _, _, _, _, _⟩) (v := ?_) (by rfl) (fun wq hSw => ?_) ?_
    rotate_left
    · (go_simp; try with_reducible rfl)
    try simp only [Act.put, List.setIfInBounds_toArray, List.set_cons_zero, List.set_cons_succ]
    refine qstep (o := ⟨some 87, _, _, _, _, _⟩) (v := ?_) (by rfl) (fun wq hSw => ?_) ?_
    rotate_left
    · (go_simp; try with_reducible rfl)
    try simp only [Act.put, List.setIfInBounds_toArray, List.set_cons_zero, List.set_cons_succ]
    refine qstep (o := ⟨some 88, _, _, _, _, _⟩) (v := ?_) (by rfl) (fun wq hSw => ?_) ?_
    rotate_left
    · (go_simp; try with_reducible rfl)
    try simp only [Act.put, List.setIfInBounds_toArray, List.set_cons_zero, List.set_cons_succ]
    refine qstep (o := ⟨some 89, _, _, _, _, _⟩) (v := ?_) (by rfl) (fun wq hSw => ?_) ?_
    rotate_left
    · (have hb9 := hSw.2; have x14 := hb9.cell (i := 14) rfl; clear hb9; go_simp; try with_reducible rfl)
    try simp only [Act.put, List.setIfInBounds_toArray, List.set_cons_zero, List.set_cons_succ]
    refine wpQuiet_nil ?_
    intro wz hHeld
    obtain ⟨hK, -⟩ := hHeld
    replace HQc := Lib.hid (hK.blk HQc.out (fun h => h))
    replace HM := Lib.hid (HM.out.kept hK (fun h => h) (fun h => h))
    replace HKw := Lib.hid (HKw.out.trans hK (fun _ _ h => h.elim))
    clear hK
    have hszk := HKw.out.size
    go_wp2_with fail
    refine (newStamp_k top (stm + 1) _).mono ?_; rintro e w6 ⟨q2, rfl, hq2, hQ2, hK⟩
    have hsz2 := HM.out.obj.lt
    have hsz3 := HM.out.row.lt
    replace HQc := Lib.hid (hK.blk HQc.out (fun h => h))
    replace HM := Lib.hid (HM.out.kept hK (fun h => h) (fun h => h))
    replace HKw := Lib.hid (HKw.out.trans hK (fun _ _ h => h.elim))
    have HQ2 := Lib.hid hQ2
    clear hQ2 hK
    have x10 := HQc.out.cell (i := 10) rfl
    go_wp2_with fail
    refine (stepStamp_any q2 _ (stm + 1) _ HQ2.out b g l k HM.out (by omega) (by omega) hk).mono ?_; rintro e w7 ⟨rfl, hM7, -, hK⟩
    clear x10 HQ2
    replace HQc := Lib.hid (hK.blk HQc.out (fun e => by rcases e with e | e | e <;> omega))
    replace HM := Lib.hid hM7
    replace HKw := Lib.hid (HKw.out.trans hK (fun i hi e => by rcases e with e | e | e <;> omega))
    have HWm := Lib.hid (hW.stamp kgeo (q := top) (s := stm + 1) ⟨by omega, by omega⟩ (by omega) (K := ⟨#[]⟩) (M := 0))
    clear hM7 hK
    have hQe := HQc.out
    have y12 := hQe.cell (i := 12) rfl
    have u12 := hQe.frozen 12
    have y18 := hQe.cell (i := 18) rfl
    have u18 := hQe.frozen 18
    have y16 := hQe.cell (i := 16) rfl
    have u16 := hQe.frozen 16
    clear hQe
    go_wp2
    go_end0
    refine ⟨rfl, _, _, (stm + 1), HWm.out, ?_, by omega, by omega, ?_, ?_⟩
    · exact ((HM.out.farq (q := p) (by unfold Own; omega) _ _).farq (q := p) (by unfold Own; omega) _ _).farq (q := p) (by unfold Own; omega) _ _
    · exact ((HQc.out.set 12 _).set 18 _).set 16 _
    · exact ((HKw.out.setCell (fun _ => .inl rfl) _).setCell (fun _ => .inl rfl) _).setCell (fun _ => .inl rfl) _

set_option maxRecDepth 100000 in
set_option maxHeartbeats 3000000 in
theorem wr_new (p b : Nat) (A : Option Addr) (c n at' top stm tm : Nat) (w : World) (h : Blk w p 67 (wrv b A c n at' top stm tm (.pointer none) (.pointer none) false)) (xs : List Stp) (hxn : xs.length = n) (hR : Rp w A c xs) (hat : at' < n) (h20 : n ≤ 1000) (l : List Cel) (htp : top < 1000) (htm : tm < 18446744073709551616) (hpw : p < w.heap.size) :
    Calls Try.prog 31 #[.pointer (some ⟨p, 0, none⟩)] w fun e w' => e = .returned (.tuple #[]) ∧ Kept (fun i => i = p) w w' ∧ ((∃ q f, w.heap.size ≤ q ∧ f ≤ tm ∧ WtAt 1 2 100 100 200 4 1000 10 810 910 w' q f tm top false ∧ Blk w' p 67 (wrv b A c n at' top stm tm (.pointer none) (.pointer (some ⟨q, 0, none⟩)) false)) ∨ (∃ q, w.heap.size ≤ q ∧ WiAt 1 2 100 100 200 4 1000 10 810 910 w' q tm top l 0 ∧ Blk w' p 67 (wrv b A c n at' (top + 1) stm tm (.pointer (some ⟨q, 0, none⟩)) (.pointer none) false))) := by
  have HR := Lib.hid hR
  clear hR
  have hge : decide ((n : Int) ≤ (at' : Int)) = false := by simp; omega
  have hlt2 : (at' : Int) < (n : Int) := by omega
  have HB := Lib.hid h
  clear h
  go_enter Try.func31, Try.ntmps31
  go_wp2_with fail
  refine qregion (fun w' => Kept (fun _ => False) w w' ∧ Blk w' p 67 (wrv b A c n at' top stm tm (.pointer none) (.pointer none) false)) (by kernel_rfl) (by kernel_rfl) ⟨(Kept.refl _ _).drew, HB.out⟩ ?_
  refine qstep (o := ⟨some 5, _, _, _, _, _⟩) (v := ?_) (by rfl) (fun wq hSw => ?_) ?_
  rotate_left
  · (go_simp; try with_reducible rfl)
  try simp only [Act.put, List.setIfInBounds_toArray, List.set_cons_zero, List.set_cons_succ]
  refine qstep (o := ⟨some 6, _, _, _, _, _⟩) (v := ?_) (by rfl) (fun wq hSw => ?_) ?_
  rotate_left
  · (go_simp; try with_reducible rfl)
  try simp only [Act.put, List.setIfInBounds_toArray, List.set_cons_zero, List.set_cons_succ]
  refine qstep (o := ⟨some 7, _, _, _, _, _⟩) (v := ?_) (by rfl) (fun wq hSw => ?_) ?_
  rotate_left
  · (go_simp; try with_reducible rfl)
  try simp only [Act.put, List.setIfInBounds_toArray, List.set_cons_zero, List.set_cons_succ]
  refine qstep (o := ⟨some 8, _, _, _, _, _⟩) (v := ?_) (by rfl) (fun wq hSw => ?_) ?_
  rotate_left
  · (have hb9 := hSw.2; have x11 := hb9.cell (i := 11) rfl; have x12 := hb9.cell (i := 12) rfl; clear hb9; go_simp; try with_reducible rfl)
  try simp only [Act.put, List.setIfInBounds_toArray, List.set_cons_zero, List.set_cons_succ]
  refine qstep (o := ⟨some 9, _, _, _, _, _⟩) (v := ?_) (by rfl) (fun wq hSw => ?_) ?_
  rotate_left
  · (go_simp; try with_reducible rfl)
  try simp only [Act.put, List.setIfInBounds_toArray, List.set_cons_zero, List.set_cons_succ]
  refine qstep (o := ⟨some 10, _, _, _, _, _⟩) (v := ?_) (by rfl) (fun wq hSw => ?_) ?_
  rotate_left
  · (go_simp; try with_reducible rfl)
  try simp only [Act.put, List.setIfInBounds_toArray, List.set_cons_zero, List.set_cons_succ]
  refine qstep (o := ⟨some 11, _, _, _, _, _⟩) (v := ?_) (by rfl) (fun wq hSw => ?_) ?_
  rotate_left
  · (go_simp; try with_reducible rfl)
  try simp only [Act.put, List.setIfInBounds_toArray, List.set_cons_zero, List.set_cons_succ]
  refine qstep (o := ⟨some 12, _, _, _, _, _⟩) (v := ?_) (by rfl) (fun wq hSw => ?_) ?_
  rotate_left
  · (have hb9 := hSw.2; have x11 := hb9.cell (i := 11) rfl; have x12 := hb9.cell (i := 12) rfl; clear hb9; go_simp; try with_reducible rfl)
  try simp only [Act.put, List.setIfInBounds_toArray, List.set_cons_zero, List.set_cons_succ]
  refine qstep (o := ⟨some 13, _, _, _, _, _⟩) (v := ?_) (by rfl) (fun wq hSw => ?_) ?_
  rotate_left
  · (go_simp; try with_reducible rfl)
  try simp only [Act.put, List.setIfInBounds_toArray, List.set_cons_zero, List.set_cons_succ]
  refine qstep (o := ⟨some 14, _, _, _, _, _⟩) (v := .bool false) (by rfl) (fun wq hSw => ?_) ?_
  · (go_simp; try first | (with_reducible rfl) | (simp; omega) | (intros; omega) | simp [*])
  try simp only [Act.put, List.setIfInBounds_toArray, List.set_cons_zero, List.set_cons_succ]
  refine wpQuiet_nil ?_
  intro wz hHeld
  obtain ⟨hK, hQ⟩ := hHeld
  have HK := Lib.hid hK
  have HQ := Lib.hid hQ
  clear hK hQ HB
  have hxr := HR.out.kept HK.out (fun _ _ h => h)
  obtain ⟨kd, v, dl, fl, hxj⟩ : ∃ kd v dl fl, xs[at']? = some (kd, v, dl, fl) := ⟨_, _, _, _, List.getElem?_eq_getElem (by omega)⟩
  obtain ⟨ga, off, rfl, hga, hcell⟩ := hxr.at (by omega)
  have HCs := Lib.hid (hcell at' _ hxj)
  clear hxr hcell
  rename World => wd
  go_wp2_with fail
  have HQc := Lib.hid (HQ.out.of (w' := wd.drew) rfl)
  have HKc := Lib.hid ((Kept.refl (fun _ => False) wd).drew)
  refine wp_region_held_drew (S := (fun w' => Blk w' p 67 (wrv b (some ⟨ga, off, none⟩) c n at' top stm tm (.pointer none) (.pointer none) false) ∧ w'.cell? ⟨ga, off + at' * 4, none⟩ = some (.int .i64 kd) ∧ w'.cell? ⟨ga, off + at' * 4 + 1, none⟩ = some (.string v) ∧ w'.cell? ⟨ga, off + at' * 4 + 2, none⟩ = some (.bool dl) ∧ w'.cell? ⟨ga, off + at' * 4 + 3, none⟩ = some (.int .u8 ((fl : Nat) : Int)))) (by kernel_rfl) ?_ (fun hHeld => ?_)
  · exact ⟨HQc.out, cells4 HCs.out HKc.out hga⟩
  refine wpAnyH_take (i := 0) (oi := ⟨some 15, _, _, _, _, _⟩) (v := ?_) rfl (by kernel_rfl) (by kernel_rfl) (by kernel_rfl) (fun _ _ _ h => h) (Or.inl ⟨by rfl, ?_⟩) hHeld ?_
  rotate_left
  · (intro wq hSw; go_simp; try with_reducible rfl)
  try simp only [Act.put, List.setIfInBounds_toArray, List.set_cons_zero, List.set_cons_succ]
  refine wpAnyH_take (i := 1) (oi := ⟨some 16, _, _, _, _, _⟩) (v := ?_) rfl (by kernel_rfl) (by kernel_rfl) (by kernel_rfl) (fun _ _ _ h => h) (Or.inl ⟨by rfl, ?_⟩) hHeld ?_
  rotate_left
  · (intro wq hSw; go_simp; try with_reducible rfl)
  try simp only [Act.put, List.setIfInBounds_toArray, List.set_cons_zero, List.set_cons_succ]
  refine wpAnyH_take (i := 2) (oi := ⟨some 17, _, _, _, _, _⟩) (v := ?_) rfl (by kernel_rfl) (by kernel_rfl) (by kernel_rfl) (fun _ _ _ h => h) (Or.inl ⟨by rfl, ?_⟩) hHeld ?_
  rotate_left
  · (intro wq hSw; go_simp; try with_reducible rfl)
  try simp only [Act.put, List.setIfInBounds_toArray, List.set_cons_zero, List.set_cons_succ]
  refine wpAnyH_take (i := 3) (oi := ⟨some 18, _, _, _, _, _⟩) (v := ?_) rfl (by kernel_rfl) (by kernel_rfl) (by kernel_rfl) (fun _ _ _ h => h) (Or.inl ⟨by rfl, ?_⟩) hHeld ?_
  rotate_left
  · (intro wq hSw; obtain ⟨hb9, c0, c1, c2', c3⟩ := hSw; have x11 := hb9.cell (i := 11) rfl; have x12 := hb9.cell (i := 12) rfl; clear hb9; go_simp; try with_reducible rfl)
  try simp only [Act.put, List.setIfInBounds_toArray, List.set_cons_zero, List.set_cons_succ]
  refine wpAnyH_take (i := 4) (oi := ⟨some 19, _, _, _, _, _⟩) (v := ?_) rfl (by kernel_rfl) (by kernel_rfl) (by kernel_rfl) (fun _ _ _ h => h) (Or.inl ⟨by rfl, ?_⟩) hHeld ?_
  rotate_left
  · (intro wq hSw; go_simp; try with_reducible rfl)
  try simp only [Act.put, List.setIfInBounds_toArray, List.set_cons_zero, List.set_cons_succ]
  refine wpAnyH_take (i := 5) (oi := ⟨some 20, _, _, _, _, _⟩) (v := ?_) rfl (by kernel_rfl) (by kernel_rfl) (by kernel_rfl) (fun _ _ _ h => h) (Or.inl ⟨by rfl, ?_⟩) hHeld ?_
  rotate_left
  · (intro wq hSw; go_simp; try with_reducible rfl)
  try simp only [Act.put, List.setIfInBounds_toArray, List.set_cons_zero, List.set_cons_succ]
  refine wpAnyH_take (i := 6) (oi := ⟨some 21, _, _, _, _, _⟩) (v := ?_) rfl (by kernel_rfl) (by kernel_rfl) (by kernel_rfl) (fun _ _ _ h => h) (Or.inl ⟨by rfl, ?_⟩) hHeld ?_
  rotate_left
  · (intro wq hSw; go_simp; try with_reducible rfl)
  try simp only [Act.put, List.setIfInBounds_toArray, List.set_cons_zero, List.set_cons_succ]
  refine wpAnyH_take (i := 7) (oi := ⟨some 22, _, _, _, _, _⟩) (v := ?_) rfl (by kernel_rfl) (by kernel_rfl) (by kernel_rfl) (fun _ _ _ h => h) (Or.inl ⟨by rfl, ?_⟩) hHeld ?_
  rotate_left
  · (intro wq hSw; obtain ⟨hb9, c0, c1, c2', c3⟩ := hSw; have x11 := hb9.cell (i := 11) rfl; have x12 := hb9.cell (i := 12) rfl; clear hb9; go_simp; try with_reducible rfl)
  try simp only [Act.put, List.setIfInBounds_toArray, List.set_cons_zero, List.set_cons_succ]
  refine wpAnyH_take (i := 8) (oi := ⟨some 23, _, _, _, _, _⟩) (v := .pointer (some ⟨ga, off + at' * 4, none⟩)) rfl (by kernel_rfl) (by kernel_rfl) (by kernel_rfl) (fun _ _ _ h => h) (Or.inl ⟨by rfl, ?_⟩) hHeld ?_
  · (intro wq hSw; go_simp; try first | (with_reducible rfl) | (simp; omega) | (intros; omega) | simp [*])
  try simp only [Act.put, List.setIfInBounds_toArray, List.set_cons_zero, List.set_cons_succ]
  refine wpAnyH_take (i := 9) (oi := ⟨some 24, _, _, _, _, _⟩) (v := ?_) rfl (by kernel_rfl) (by kernel_rfl) (by kernel_rfl) (fun _ _ _ h => h) (Or.inl ⟨by rfl, ?_⟩) hHeld ?_
  rotate_left
  · (intro wq hSw; obtain ⟨hb9, c0, c1, c2', c3⟩ := hSw; have x11 := hb9.cell (i := 11) rfl; have x12 := hb9.cell (i := 12) rfl; clear hb9; go_simp; try with_reducible rfl)
  try simp only [Act.put, List.setIfInBounds_toArray, List.set_cons_zero, List.set_cons_succ]
  refine wpAnyH_ready (rs := [10]) (by kernel_rfl) (by simp) ?_
  refine AllReadyH.cons (o := ⟨some 2, _, _, _, _, _⟩) rfl (fun KK hK => ?_) (AllReadyH.nil)
  go_simp
  replace HQc := Lib.hid (HQc.out.alloc (.cells #[.int .i64 0, .string ⟨#[]⟩, .bool false, .int .u8 0] 36))
  replace HKc := Lib.hid (HKc.out.alloc (.cells #[.int .i64 0, .string ⟨#[]⟩, .bool false, .int .u8 0] 36))
  refine hK.out _ _ ?_ (fun hHeld2 => ?_)
  · exact ⟨HQc.out, cells4 HCs.out HKc.out hga⟩
  clear hK KK hHeld
  have hHeld := hHeld2
  clear hHeld2
  try simp only [Act.put, List.setIfInBounds_toArray, List.set_cons_zero, List.set_cons_succ]
  refine wpAnyH_ready (rs := [11]) (by kernel_rfl) (by simp) ?_
  refine AllReadyH.cons (o := ⟨none, _, _, _, _, _⟩) rfl (fun KK hK => ?_) (AllReadyH.nil)
  go_simp
  replace HQc := Lib.hid (show Blk ((wd.alloc (.cells #[.int .i64 kd, .string v, .bool dl, .int .u8 (fl : Int)] 36)).drew) p 67 (wrv b (some ⟨ga, off, none⟩) c n at' top stm tm (.pointer none) (.pointer none) false) from (HQ.out.alloc (.cells #[.int .i64 kd, .string v, .bool dl, .int .u8 (fl : Int)] 36)))
  replace HKc := Lib.hid (((Kept.refl (fun _ => False) wd).alloc (.cells #[.int .i64 kd, .string v, .bool dl, .int .u8 (fl : Int)] 36)).drew)
  refine hK.out _ _ ?_ (fun hHeld2 => ?_)
  · exact ⟨HQc.out, cells4 HCs.out HKc.out hga⟩
  clear hK KK hHeld
  have hHeld := hHeld2
  clear hHeld2
  try simp only [Act.put, List.setIfInBounds_toArray, List.set_cons_zero, List.set_cons_succ]
  refine wpAnyH_done (by kernel_rfl) ?_ _
  clear hHeld
  have HS := Lib.hid (show Blk ((wd.alloc (.cells #[.int .i64 kd, .string v, .bool dl, .int .u8 (fl : Int)] 36)).drew) wd.heap.size 36 [.int .i64 kd, .string v, .bool dl, .int .u8 (fl : Int)] from Blk.new wd [.int .i64 kd, .string v, .bool dl, .int .u8 (fl : Int)] 36)
  have HK2 := Lib.hid (HK.out.trans HKc.out (fun _ _ h => h))
  have hszd := HK.out.size
  clear HQ HK HKc HCs
  have hszw := HK2.out.size
  have hszV := nblk_alloc wd (.cells #[.int .i64 kd, .string v, .bool dl, .int .u8 (fl : Int)] 36)
  have hQe := HQc.out
  have x18 := hQe.cell (i := 18) rfl
  have x16 := hQe.cell (i := 16) rfl
  have x17 := hQe.cell (i := 17) rfl
  clear hQe
  have s0 := HS.out.cell (i := 0) rfl
  obtain ⟨r, hr, hr6⟩ := mod_ex kd 6 (by omega)
  go_wp2_with fail
  refine (mod_of kd 6 r _ (by omega) (by omega) hr).mono ?_; rintro e w5 ⟨rfl, rfl⟩
  generalize (wd.alloc (.cells #[.int .i64 kd, .string v, .bool dl, .int .u8 (fl : Int)] 36)).drew = V at *
  clear x18 x16 x17 s0
  by_cases h5 : r = 5
  · have h5' : ((r : Int) == 5) = true := by simp; omega
    obtain ⟨f4, hf4⟩ : ∃ f4, fl % 4 = f4 := ⟨_, rfl⟩
    have hf41 : (fl : Int) % 4 = (f4 : Int) := by omega
    have hf42 : (fl : Int).tmod 4 = (f4 : Int) := by rw [Int.tmod_eq_emod_of_nonneg (by omega)]; omega
    have hf43 : f4 < 4 := by omega
    obtain ⟨T, hT⟩ : ∃ T, tm - min tm f4 = T := ⟨_, rfl⟩
    clear hf4 h5
    go_wp2_with fail
    clear h5'
    have hwf : IntKind.u64.wrap ((f4 : Nat) : Int) = (f4 : Int) := IntWalk.u64_in _ (by omega)
    have hwT : IntKind.u64.wrap ((tm : Int) - ((min tm f4 : Nat) : Int)) = (T : Int) := by rw [IntWalk.u64_in _ (by omega)]; omega
    have HQc := Lib.hid (HQc.out.of (w' := V.drew) rfl)
    have HS := Lib.hid (HS.out.of (w' := V.drew) rfl)
    have HKw := Lib.hid ((HK2.out.drew).mono (T := fun i => i = p) (fun _ h => h.elim))
    have hszk := HKw.out.size
    have hTm : T ≤ tm := by omega
    clear HK2
    refine wp_region_held_drew (S := (fun w' => (∃ vc, Blk w' p 67 (wrv b (some ⟨ga, off, none⟩) c n at' top stm tm (.pointer none) vc false)) ∧ Blk w' wd.heap.size 36 [.int .i64 kd, .string v, .bool dl, .int .u8 (fl : Int)])) (by kernel_rfl) ?_ (fun hHeld => ?_)
    · exact ⟨⟨_, HQc.out⟩, HS.out⟩
    generalize V.drew = G at *
    refine wpAnyH_take (i := 0) (oi := ⟨some 160, _, _, _, _, _⟩) (v := ?_) rfl (by kernel_rfl) (by kernel_rfl) (by kernel_rfl) (fun _ _ _ h => h) (Or.inl ⟨by rfl, ?_⟩) hHeld ?_
    rotate_left
    · (intro wq hSw; go_simp; try with_reducible rfl)
    try simp only [Act.put, List.setIfInBounds_toArray, List.set_cons_zero, List.set_cons_succ]
    refine wpAnyH_take (i := 1) (oi := ⟨some 161, _, _, _, _, _⟩) (v := ?_) rfl (by kernel_rfl) (by kernel_rfl) (by kernel_rfl) (fun _ _ _ h => h) (Or.inl ⟨by rfl, ?_⟩) hHeld ?_
    rotate_left
    · (intro wq hSw; go_simp; try with_reducible rfl)
    try simp only [Act.put, List.setIfInBounds_toArray, List.set_cons_zero, List.set_cons_succ]
    refine wpAnyH_take (i := 2) (oi := ⟨some 162, _, _, _, _, _⟩) (v := ?_) rfl (by kernel_rfl) (by kernel_rfl) (by kernel_rfl) (fun _ _ _ h => h) (Or.inl ⟨by rfl, ?_⟩) hHeld ?_
    rotate_left
    · (intro wq hSw; go_simp; try with_reducible rfl)
    try simp only [Act.put, List.setIfInBounds_toArray, List.set_cons_zero, List.set_cons_succ]
    refine wpAnyH_take (i := 3) (oi := ⟨some 163, _, _, _, _, _⟩) (v := ?_) rfl (by kernel_rfl) (by kernel_rfl) (by kernel_rfl) (fun _ _ _ h => h) (Or.inl ⟨by rfl, ?_⟩) hHeld ?_
    rotate_left
    · (intro wq hSw; go_simp; try with_reducible rfl)
    try simp only [Act.put, List.setIfInBounds_toArray, List.set_cons_zero, List.set_cons_succ]
    refine wpAnyH_take (i := 4) (oi := ⟨some 164, _, _, _, _, _⟩) (v := ?_) rfl (by kernel_rfl) (by kernel_rfl) (by kernel_rfl) (fun _ _ _ h => h) (Or.inl ⟨by rfl, ?_⟩) hHeld ?_
    rotate_left
    · (intro wq hSw; obtain ⟨⟨vc, hb9⟩, hs9⟩ := hSw; have x0 := hb9.cell (i := 0) rfl; have x1 := hb9.cell (i := 1) rfl; have x2 := hb9.cell (i := 2) rfl; have x3 := hb9.cell (i := 3) rfl; have x4 := hb9.cell (i := 4) rfl; have x5 := hb9.cell (i := 5) rfl; have x6 := hb9.cell (i := 6) rfl; have x7 := hb9.cell (i := 7) rfl; have x8 := hb9.cell (i := 8) rfl; have x9 := hb9.cell (i := 9) rfl; have x15 := hb9.cell (i := 15) rfl; have s3 := hs9.cell (i := 3) rfl; clear hb9 hs9; go_simp; try with_reducible rfl)
    try simp only [Act.put, List.setIfInBounds_toArray, List.set_cons_zero, List.set_cons_succ]
    refine wpAnyH_take (i := 5) (oi := ⟨some 165, _, _, _, _, _⟩) (v := ?_) rfl (by kernel_rfl) (by kernel_rfl) (by kernel_rfl) (fun _ _ _ h => h) (Or.inl ⟨by rfl, ?_⟩) hHeld ?_
    rotate_left
    · (intro wq hSw; go_simp; try with_reducible rfl)
    try simp only [Act.put, List.setIfInBounds_toArray, List.set_cons_zero, List.set_cons_succ]
    refine wpAnyH_take (i := 6) (oi := ⟨some 166, _, _, _, _, _⟩) (v := ?_) rfl (by kernel_rfl) (by kernel_rfl) (by kernel_rfl) (fun _ _ _ h => h) (Or.inl ⟨by rfl, ?_⟩) hHeld ?_
    rotate_left
    · (intro wq hSw; go_simp; try with_reducible rfl)
    try simp only [Act.put, List.setIfInBounds_toArray, List.set_cons_zero, List.set_cons_succ]
    refine wpAnyH_take (i := 7) (oi := ⟨some 167, _, _, _, _, _⟩) (v := ?_) rfl (by kernel_rfl) (by kernel_rfl) (by kernel_rfl) (fun _ _ _ h => h) (Or.inl ⟨by rfl, ?_⟩) hHeld ?_
    rotate_left
    · (intro wq hSw; go_simp; try with_reducible rfl)
    try simp only [Act.put, List.setIfInBounds_toArray, List.set_cons_zero, List.set_cons_succ]
    refine wpAnyH_take (i := 8) (oi := ⟨some 168, _, _, _, _, _⟩) (v := ?_) rfl (by kernel_rfl) (by kernel_rfl) (by kernel_rfl) (fun _ _ _ h => h) (Or.inl ⟨by rfl, ?_⟩) hHeld ?_
    rotate_left
    · (intro wq hSw; obtain ⟨⟨vc, hb9⟩, hs9⟩ := hSw; have x0 := hb9.cell (i := 0) rfl; have x1 := hb9.cell (i := 1) rfl; have x2 := hb9.cell (i := 2) rfl; have x3 := hb9.cell (i := 3) rfl; have x4 := hb9.cell (i := 4) rfl; have x5 := hb9.cell (i := 5) rfl; have x6 := hb9.cell (i := 6) rfl; have x7 := hb9.cell (i := 7) rfl; have x8 := hb9.cell (i := 8) rfl; have x9 := hb9.cell (i := 9) rfl; have x15 := hb9.cell (i := 15) rfl; have s3 := hs9.cell (i := 3) rfl; clear hb9 hs9; go_simp; try with_reducible rfl)
    try simp only [Act.put, List.setIfInBounds_toArray, List.set_cons_zero, List.set_cons_succ]
    refine wpAnyH_take (i := 9) (oi := ⟨some 169, _, _, _, _, _⟩) (v := ?_) rfl (by kernel_rfl) (by kernel_rfl) (by kernel_rfl) (fun _ _ _ h => h) (Or.inl ⟨by rfl, ?_⟩) hHeld ?_
    rotate_left
    · (intro wq hSw; go_simp; try with_reducible rfl)
    try simp only [Act.put, List.setIfInBounds_toArray, List.set_cons_zero, List.set_cons_succ]
    refine wpAnyH_take (i := 10) (oi := ⟨some 170, _, _, _, _, _⟩) (v := ?_) rfl (by kernel_rfl) (by kernel_rfl) (by kernel_rfl) (fun _ _ _ h => h) (Or.inl ⟨by rfl, ?_⟩) hHeld ?_
    rotate_left
    · (intro wq hSw; go_simp; try with_reducible rfl)
    try simp only [Act.put, List.setIfInBounds_toArray, List.set_cons_zero, List.set_cons_succ]
    refine wpAnyH_take (i := 11) (oi := ⟨some 171, _, _, _, _, _⟩) (v := ?_) rfl (by kernel_rfl) (by kernel_rfl) (by kernel_rfl) (fun _ _ _ h => h) (Or.inl ⟨by rfl, ?_⟩) hHeld ?_
    rotate_left
    · (intro wq hSw; go_simp; try with_reducible rfl)
    try simp only [Act.put, List.setIfInBounds_toArray, List.set_cons_zero, List.set_cons_succ]
    refine wpAnyH_take (i := 12) (oi := ⟨some 172, _, _, _, _, _⟩) (v := ?_) rfl (by kernel_rfl) (by kernel_rfl) (by kernel_rfl) (fun _ _ _ h => h) (Or.inl ⟨by rfl, ?_⟩) hHeld ?_
    rotate_left
    · (intro wq hSw; obtain ⟨⟨vc, hb9⟩, hs9⟩ := hSw; have x0 := hb9.cell (i := 0) rfl; have x1 := hb9.cell (i := 1) rfl; have x2 := hb9.cell (i := 2) rfl; have x3 := hb9.cell (i := 3) rfl; have x4 := hb9.cell (i := 4) rfl; have x5 := hb9.cell (i := 5) rfl; have x6 := hb9.cell (i := 6) rfl; have x7 := hb9.cell (i := 7) rfl; have x8 := hb9.cell (i := 8) rfl; have x9 := hb9.cell (i := 9) rfl; have x15 := hb9.cell (i := 15) rfl; have s3 := hs9.cell (i := 3) rfl; clear hb9 hs9; go_simp; try with_reducible rfl)
    try simp only [Act.put, List.setIfInBounds_toArray, List.set_cons_zero, List.set_cons_succ]
    refine wpAnyH_take (i := 13) (oi := ⟨some 173, _, _, _, _, _⟩) (v := ?_) rfl (by kernel_rfl) (by kernel_rfl) (by kernel_rfl) (fun _ _ _ h => h) (Or.inl ⟨by rfl, ?_⟩) hHeld ?_
    rotate_left
    · (intro wq hSw; go_simp; try with_reducible rfl)
    try simp only [Act.put, List.setIfInBounds_toArray, List.set_cons_zero, List.set_cons_succ]
    refine wpAnyH_take (i := 14) (oi := ⟨some 174, _, _, _, _, _⟩) (v := ?_) rfl (by kernel_rfl) (by kernel_rfl) (by kernel_rfl) (fun _ _ _ h => h) (Or.inl ⟨by rfl, ?_⟩) hHeld ?_
    rotate_left
    · (intro wq hSw; obtain ⟨⟨vc, hb9⟩, hs9⟩ := hSw; have x0 := hb9.cell (i := 0) rfl; have x1 := hb9.cell (i := 1) rfl; have x2 := hb9.cell (i := 2) rfl; have x3 := hb9.cell (i := 3) rfl; have x4 := hb9.cell (i := 4) rfl; have x5 := hb9.cell (i := 5) rfl; have x6 := hb9.cell (i := 6) rfl; have x7 := hb9.cell (i := 7) rfl; have x8 := hb9.cell (i := 8) rfl; have x9 := hb9.cell (i := 9) rfl; have x15 := hb9.cell (i := 15) rfl; have s3 := hs9.cell (i := 3) rfl; clear hb9 hs9; go_simp; try with_reducible rfl)
    try simp only [Act.put, List.setIfInBounds_toArray, List.set_cons_zero, List.set_cons_succ]
    refine wpAnyH_take (i := 15) (oi := ⟨some 175, _, _, _, _, _⟩) (v := .int .u8 (f4 : Int)) rfl (by kernel_rfl) (by kernel_rfl) (by kernel_rfl) (fun _ _ _ h => h) (Or.inl ⟨by rfl, ?_⟩) hHeld ?_
    · (intro wq hSw; go_simp; try first | (with_reducible rfl) | (simp; omega) | (intros; omega) | simp [*])
    try simp only [Act.put, List.setIfInBounds_toArray, List.set_cons_zero, List.set_cons_succ]
    refine wpAnyH_take (i := 16) (oi := ⟨some 176, _, _, _, _, _⟩) (v := .int .u64 (f4 : Int)) rfl (by kernel_rfl) (by kernel_rfl) (by kernel_rfl) (fun _ _ _ h => h) (Or.inl ⟨by rfl, ?_⟩) hHeld ?_
    · (intro wq hSw; go_simp; try first | (with_reducible rfl) | (simp; omega) | (intros; omega) | simp [*])
    try simp only [Act.put, List.setIfInBounds_toArray, List.set_cons_zero, List.set_cons_succ]
    refine wpAnyH_ready (rs := [17]) (by kernel_rfl) (by simp) ?_
    refine AllReadyH.cons (o := ⟨some 177, _, _, _, _, _⟩) rfl (fun KK hK => ?_) AllReadyH.nil
    go_simp
    rw [show (if f4 < tm then (f4 : Int) else (tm : Int)) = ((min tm f4 : Nat) : Int) by split <;> omega]
    refine hK.out _ _ ?_ (fun hHeld2 => ?_)
    · exact ⟨⟨_, HQc.out⟩, HS.out⟩
    clear hK KK hHeld
    have hHeld := hHeld2
    clear hHeld2
    try simp only [Act.put, List.setIfInBounds_toArray, List.set_cons_zero, List.set_cons_succ]
    refine wpAnyH_take (i := 18) (oi := ⟨some 178, _, _, _, _, _⟩) (v := .int .u64 (T : Int)) rfl (by kernel_rfl) (by kernel_rfl) (by kernel_rfl) (fun _ _ _ h => h) (Or.inl ⟨by rfl, ?_⟩) hHeld ?_
    · (intro wq hSw; go_simp; try first | (with_reducible rfl) | (simp; omega) | (intros; omega) | simp [*])
    try simp only [Act.put, List.setIfInBounds_toArray, List.set_cons_zero, List.set_cons_succ]
    refine wpAnyH_ready (rs := [19]) (by kernel_rfl) (by simp) ?_
    refine AllReadyH.cons (o := ⟨some 179, _, _, _, _, _⟩) rfl (fun KK hK => ?_) AllReadyH.nil
    go_simp
    go_at_call 12
    refine (wt_new 1 2 100 100 200 4 1000 10 810 910 T tm top _).mono ?_; rintro e w6 ⟨q, rfl, hq, hT6, hqw, hK⟩
    replace HQc := Lib.hid (hK.blk HQc.out (fun h => h))
    replace HS := Lib.hid (hK.blk HS.out (fun h => h))
    have HT := Lib.hid hT6
    replace HKw := Lib.hid (HKw.out.trans hK (fun _ _ h => h.elim))
    have y17 := HQc.out.cell (i := 17) rfl
    have u17 := HQc.out.frozen 17
    clear hT6 hK
    refine hK.out _ _ ?_ (fun hHeld2 => ?_)
    · exact ⟨⟨_, HQc.out⟩, HS.out⟩
    clear hK KK hHeld
    have hHeld := hHeld2
    clear hHeld2
    try simp only [Act.put, List.setIfInBounds_toArray, List.set_cons_zero, List.set_cons_succ]
    refine wpAnyH_take (i := 20) (oi := ⟨some 180, _, _, _, _, _⟩) (v := ?_) rfl (by kernel_rfl) (by kernel_rfl) (by kernel_rfl) (fun _ _ _ h => h) (Or.inl ⟨by rfl, ?_⟩) hHeld ?_
    rotate_left
    · (intro wq hSw; go_simp; try with_reducible rfl)
    try simp only [Act.put, List.setIfInBounds_toArray, List.set_cons_zero, List.set_cons_succ]
    refine wpAnyH_take (i := 21) (oi := ⟨some 181, _, _, _, _, _⟩) (v := ?_) rfl (by kernel_rfl) (by kernel_rfl) (by kernel_rfl) (fun _ _ _ h => h) (Or.inl ⟨by rfl, ?_⟩) hHeld ?_
    rotate_left
    · (intro wq hSw; go_simp; try with_reducible rfl)
    try simp only [Act.put, List.setIfInBounds_toArray, List.set_cons_zero, List.set_cons_succ]
    refine wpAnyH_ready (rs := [22]) (by kernel_rfl) (by simp) ?_
    refine AllReadyH.cons (o := ⟨none, _, _, _, _, _⟩) rfl (fun KK hK => ?_) AllReadyH.nil
    go_simp
    have HE := Lib.hid ((HKw.out.setCell (a := ⟨p, 17, none⟩) (fun _ => rfl) (.pointer (some ⟨q, 0, none⟩))))
    replace HT := Lib.hid (HT.out.kept ((Kept.refl (fun i => i = p) w6).setCell (a := ⟨p, 17, none⟩) (fun _ => rfl) (.pointer (some ⟨q, 0, none⟩))) (fun e => by omega))
    replace HQc := Lib.hid (HQc.out.set 17 (.pointer (some ⟨q, 0, none⟩)))
    replace HS := Lib.hid (((Kept.refl (fun i => i = p) w6).setCell (a := ⟨p, 17, none⟩) (fun _ => rfl) (.pointer (some ⟨q, 0, none⟩))).blk HS.out (fun e => by omega))
    refine hK.out _ _ ?_ (fun hHeld2 => ?_)
    · exact ⟨⟨_, HQc.out⟩, HS.out⟩
    clear hK KK hHeld
    have hHeld := hHeld2
    clear hHeld2
    try simp only [Act.put, List.setIfInBounds_toArray, List.set_cons_zero, List.set_cons_succ]
    refine wpAnyH_done (by kernel_rfl) ?_ _
    clear hHeld
    go_wp2
    go_end0
    exact ⟨rfl, HE.out, .inl ⟨q, T, by omega, hTm, HT.out, HQc.out⟩⟩
  · have h5' : ((r : Int) == 5) = false := by simp; omega
    have y13 := HQc.out.cell (i := 13) rfl
    have u13 := HQc.out.frozen 13
    go_wp2_with fail
    clear h5' h5 y13 u13
    have hK := (Kept.refl (fun i => i = p) V).setCell (a := ⟨p, 13, none⟩) (fun _ => rfl) (.int .u64 ((top : Int) + 1))
    have HKw := Lib.hid ((HK2.out.mono (T := fun i => i = p) (fun _ h => h.elim)).trans hK (fun _ _ h => h))
    have HQd := Lib.hid (show Blk (V.setCell ⟨p, 13, none⟩ (.int .u64 ((top : Int) + 1))) p 67 (wrv b (some ⟨ga, off, none⟩) c n at' (top + 1) stm tm (.pointer none) (.pointer none) false) from HQc.out.set 13 (.int .u64 ((top : Int) + 1)))
    have hsz0 := hK.size
    replace HS := Lib.hid (hK.blk HS.out (fun e => by omega))
    clear hK HQc HK2
    generalize V.setCell ⟨p, 13, none⟩ (.int .u64 ((top : Int) + 1)) = V2 at *
    have HQc := Lib.hid (HQd.out.of (w' := V2.drew) rfl)
    replace HS := Lib.hid (HS.out.of (w' := V2.drew) rfl)
    replace HKw := Lib.hid HKw.out.drew
    have hszk := HKw.out.size
    clear HQd
    refine wp_region_held_drew (S := (fun w' => (∃ vi, Blk w' p 67 (wrv b (some ⟨ga, off, none⟩) c n at' (top + 1) stm tm vi (.pointer none) false)) ∧ Blk w' wd.heap.size 36 [.int .i64 kd, .string v, .bool dl, .int .u8 (fl : Int)])) (by kernel_rfl) ?_ (fun hHeld => ?_)
    · exact ⟨⟨_, HQc.out⟩, HS.out⟩
    generalize V2.drew = G at *
    refine wpAnyH_take (i := 0) (oi := ⟨some 32, _, _, _, _, _⟩) (v := ?_) rfl (by kernel_rfl) (by kernel_rfl) (by kernel_rfl) (fun _ _ _ h => h) (Or.inl ⟨by rfl, ?_⟩) hHeld ?_
    rotate_left
    · (intro wq hSw; go_simp; try with_reducible rfl)
    try simp only [Act.put, List.setIfInBounds_toArray, List.set_cons_zero, List.set_cons_succ]
    refine wpAnyH_take (i := 1) (oi := ⟨some 33, _, _, _, _, _⟩) (v := ?_) rfl (by kernel_rfl) (by kernel_rfl) (by kernel_rfl) (fun _ _ _ h => h) (Or.inl ⟨by rfl, ?_⟩) hHeld ?_
    rotate_left
    · (intro wq hSw; go_simp; try with_reducible rfl)
    try simp only [Act.put, List.setIfInBounds_toArray, List.set_cons_zero, List.set_cons_succ]
    refine wpAnyH_take (i := 2) (oi := ⟨some 34, _, _, _, _, _⟩) (v := ?_) rfl (by kernel_rfl) (by kernel_rfl) (by kernel_rfl) (fun _ _ _ h => h) (Or.inl ⟨by rfl, ?_⟩) hHeld ?_
    rotate_left
    · (intro wq hSw; go_simp; try with_reducible rfl)
    try simp only [Act.put, List.setIfInBounds_toArray, List.set_cons_zero, List.set_cons_succ]
    refine wpAnyH_take (i := 3) (oi := ⟨some 35, _, _, _, _, _⟩) (v := ?_) rfl (by kernel_rfl) (by kernel_rfl) (by kernel_rfl) (fun _ _ _ h => h) (Or.inl ⟨by rfl, ?_⟩) hHeld ?_
    rotate_left
    · (intro wq hSw; go_simp; try with_reducible rfl)
    try simp only [Act.put, List.setIfInBounds_toArray, List.set_cons_zero, List.set_cons_succ]
    refine wpAnyH_take (i := 4) (oi := ⟨some 36, _, _, _, _, _⟩) (v := ?_) rfl (by kernel_rfl) (by kernel_rfl) (by kernel_rfl) (fun _ _ _ h => h) (Or.inl ⟨by rfl, ?_⟩) hHeld ?_
    rotate_left
    · (intro wq hSw; obtain ⟨⟨vi, hb9⟩, hs9⟩ := hSw; have x0 := hb9.cell (i := 0) rfl; have x1 := hb9.cell (i := 1) rfl; have x2 := hb9.cell (i := 2) rfl; have x3 := hb9.cell (i := 3) rfl; have x4 := hb9.cell (i := 4) rfl; have x5 := hb9.cell (i := 5) rfl; have x6 := hb9.cell (i := 6) rfl; have x7 := hb9.cell (i := 7) rfl; have x8 := hb9.cell (i := 8) rfl; have x9 := hb9.cell (i := 9) rfl; have x13 := hb9.cell (i := 13) rfl; have s0 := hs9.cell (i := 0) rfl; have s1 := hs9.cell (i := 1) rfl; have s2 := hs9.cell (i := 2) rfl; have s3 := hs9.cell (i := 3) rfl; clear hb9 hs9; go_simp; try with_reducible rfl)
    try simp only [Act.put, List.setIfInBounds_toArray, List.set_cons_zero, List.set_cons_succ]
    refine wpAnyH_take (i := 5) (oi := ⟨some 37, _, _, _, _, _⟩) (v := ?_) rfl (by kernel_rfl) (by kernel_rfl) (by kernel_rfl) (fun _ _ _ h => h) (Or.inl ⟨by rfl, ?_⟩) hHeld ?_
    rotate_left
    · (intro wq hSw; go_simp; try with_reducible rfl)
    try simp only [Act.put, List.setIfInBounds_toArray, List.set_cons_zero, List.set_cons_succ]
    refine wpAnyH_take (i := 6) (oi := ⟨some 38, _, _, _, _, _⟩) (v := ?_) rfl (by kernel_rfl) (by kernel_rfl) (by kernel_rfl) (fun _ _ _ h => h) (Or.inl ⟨by rfl, ?_⟩) hHeld ?_
    rotate_left
    · (intro wq hSw; go_simp; try with_reducible rfl)
    try simp only [Act.put, List.setIfInBounds_toArray, List.set_cons_zero, List.set_cons_succ]
    refine wpAnyH_take (i := 7) (oi := ⟨some 39, _, _, _, _, _⟩) (v := ?_) rfl (by kernel_rfl) (by kernel_rfl) (by kernel_rfl) (fun _ _ _ h => h) (Or.inl ⟨by rfl, ?_⟩) hHeld ?_
    rotate_left
    · (intro wq hSw; go_simp; try with_reducible rfl)
    try simp only [Act.put, List.setIfInBounds_toArray, List.set_cons_zero, List.set_cons_succ]
    refine wpAnyH_take (i := 8) (oi := ⟨some 40, _, _, _, _, _⟩) (v := ?_) rfl (by kernel_rfl) (by kernel_rfl) (by kernel_rfl) (fun _ _ _ h => h) (Or.inl ⟨by rfl, ?_⟩) hHeld ?_
    rotate_left
    · (intro wq hSw; obtain ⟨⟨vi, hb9⟩, hs9⟩ := hSw; have x0 := hb9.cell (i := 0) rfl; have x1 := hb9.cell (i := 1) rfl; have x2 := hb9.cell (i := 2) rfl; have x3 := hb9.cell (i := 3) rfl; have x4 := hb9.cell (i := 4) rfl; have x5 := hb9.cell (i := 5) rfl; have x6 := hb9.cell (i := 6) rfl; have x7 := hb9.cell (i := 7) rfl; have x8 := hb9.cell (i := 8) rfl; have x9 := hb9.cell (i := 9) rfl; have x13 := hb9.cell (i := 13) rfl; have s0 := hs9.cell (i := 0) rfl; have s1 := hs9.cell (i := 1) rfl; have s2 := hs9.cell (i := 2) rfl; have s3 := hs9.cell (i := 3) rfl; clear hb9 hs9; go_simp; try with_reducible rfl)
    try simp only [Act.put, List.setIfInBounds_toArray, List.set_cons_zero, List.set_cons_succ]
    refine wpAnyH_take (i := 9) (oi := ⟨some 41, _, _, _, _, _⟩) (v := ?_) rfl (by kernel_rfl) (by kernel_rfl) (by kernel_rfl) (fun _ _ _ h => h) (Or.inl ⟨by rfl, ?_⟩) hHeld ?_
    rotate_left
    · (intro wq hSw; obtain ⟨⟨vi, hb9⟩, hs9⟩ := hSw; have x0 := hb9.cell (i := 0) rfl; have x1 := hb9.cell (i := 1) rfl; have x2 := hb9.cell (i := 2) rfl; have x3 := hb9.cell (i := 3) rfl; have x4 := hb9.cell (i := 4) rfl; have x5 := hb9.cell (i := 5) rfl; have x6 := hb9.cell (i := 6) rfl; have x7 := hb9.cell (i := 7) rfl; have x8 := hb9.cell (i := 8) rfl; have x9 := hb9.cell (i := 9) rfl; have x13 := hb9.cell (i := 13) rfl; have s0 := hs9.cell (i := 0) rfl; have s1 := hs9.cell (i := 1) rfl; have s2 := hs9.cell (i := 2) rfl; have s3 := hs9.cell (i := 3) rfl; clear hb9 hs9; go_simp; try with_reducible rfl)
    try simp only [Act.put, List.setIfInBounds_toArray, List.set_cons_zero, List.set_cons_succ]
    refine wpAnyH_ready (rs := [10]) (by kernel_rfl) (by simp) ?_
    refine AllReadyH.cons (o := ⟨some 42, _, _, _, _, _⟩) rfl (fun KK hK => ?_) AllReadyH.nil
    go_simp
    go_at_call 17
    refine (write_val kd fl v dl _).mono ?_; rintro e w6 ⟨rfl, hK⟩
    have hsz1 := hK.size
    replace HQc := Lib.hid (hK.blk HQc.out (fun h => h))
    replace HS := Lib.hid (hK.blk HS.out (fun h => h))
    replace HKw := Lib.hid (HKw.out.trans hK (fun _ _ h => h.elim))
    clear hK
    refine hK.out _ _ ?_ (fun hHeld2 => ?_)
    · exact ⟨⟨_, HQc.out⟩, HS.out⟩
    clear hK KK hHeld
    have hHeld := hHeld2
    clear hHeld2
    try simp only [Act.put, List.setIfInBounds_toArray, List.set_cons_zero, List.set_cons_succ]
    refine wpAnyH_ready (rs := [11]) (by kernel_rfl) (by simp) ?_
    refine AllReadyH.cons (o := ⟨some 43, _, _, _, _, _⟩) rfl (fun KK hK => ?_) AllReadyH.nil
    go_simp
    go_at_call 18
    refine (wi_new 1 2 100 100 200 4 1000 10 810 910 tm top l ⟨#[]⟩ (wstr v dl) dl _).mono ?_; rintro e w7 ⟨q, rfl, hq, hT6, hqw, hK⟩
    replace HQc := Lib.hid (hK.blk HQc.out (fun h => h))
    replace HS := Lib.hid (hK.blk HS.out (fun h => h))
    have HT := Lib.hid hT6
    replace HKw := Lib.hid (HKw.out.trans hK (fun _ _ h => h.elim))
    have y16 := HQc.out.cell (i := 16) rfl
    have u16 := HQc.out.frozen 16
    clear hT6 hK
    refine hK.out _ _ ?_ (fun hHeld2 => ?_)
    · exact ⟨⟨_, HQc.out⟩, HS.out⟩
    clear hK KK hHeld
    have hHeld := hHeld2
    clear hHeld2
    try simp only [Act.put, List.setIfInBounds_toArray, List.set_cons_zero, List.set_cons_succ]
    refine wpAnyH_take (i := 12) (oi := ⟨some 44, _, _, _, _, _⟩) (v := ?_) rfl (by kernel_rfl) (by kernel_rfl) (by kernel_rfl) (fun _ _ _ h => h) (Or.inl ⟨by rfl, ?_⟩) hHeld ?_
    rotate_left
    · (intro wq hSw; go_simp; try with_reducible rfl)
    try simp only [Act.put, List.setIfInBounds_toArray, List.set_cons_zero, List.set_cons_succ]
    refine wpAnyH_take (i := 13) (oi := ⟨some 45, _, _, _, _, _⟩) (v := ?_) rfl (by kernel_rfl) (by kernel_rfl) (by kernel_rfl) (fun _ _ _ h => h) (Or.inl ⟨by rfl, ?_⟩) hHeld ?_
    rotate_left
    · (intro wq hSw; go_simp; try with_reducible rfl)
    try simp only [Act.put, List.setIfInBounds_toArray, List.set_cons_zero, List.set_cons_succ]
    refine wpAnyH_ready (rs := [14]) (by kernel_rfl) (by simp) ?_
    refine AllReadyH.cons (o := ⟨none, _, _, _, _, _⟩) rfl (fun KK hK => ?_) AllReadyH.nil
    go_simp
    have HE := Lib.hid ((HKw.out.setCell (a := ⟨p, 16, none⟩) (fun _ => rfl) (.pointer (some ⟨q, 0, none⟩))))
    replace HT := Lib.hid (HT.out.kept ((Kept.refl (fun i => i = p) w7).setCell (a := ⟨p, 16, none⟩) (fun _ => rfl) (.pointer (some ⟨q, 0, none⟩))) (fun e => by omega))
    replace HQc := Lib.hid (HQc.out.set 16 (.pointer (some ⟨q, 0, none⟩)))
    replace HS := Lib.hid (((Kept.refl (fun i => i = p) w7).setCell (a := ⟨p, 16, none⟩) (fun _ => rfl) (.pointer (some ⟨q, 0, none⟩))).blk HS.out (fun e => by omega))
    refine hK.out _ _ ?_ (fun hHeld2 => ?_)
    · exact ⟨⟨_, HQc.out⟩, HS.out⟩
    clear hK KK hHeld
    have hHeld := hHeld2
    clear hHeld2
    try simp only [Act.put, List.setIfInBounds_toArray, List.set_cons_zero, List.set_cons_succ]
    refine wpAnyH_done (by kernel_rfl) ?_ _
    clear hHeld
    go_wp2
    go_end0
    exact ⟨rfl, HE.out, .inr ⟨q, by omega, HT.out, HQc.out⟩⟩

end Go.Proofs.Ytpamjbjgckaedaa
