/-
  The writer's step of ChainLookupIsStable, an arm at a time. Condition: lists within the model's reach.
-/
import Derived.Test.YtpamjbjgckaedaaChnWayW
import Derived.Test.YtpamjbjgckaedaaChnLawD
namespace Go.Proofs.Ytpamjbjgckaedaa
open Go.RowKit Go.Deep Plain
set_option linter.unusedVariables false

/-- The cells of a writer: the layout, the memory, its steps, how many are done, the record, the stamp, the time, what it installs, what it truncates, whether the version has to be stamped or taken back. -/
def wrv (b : Nat) (A : Option Addr) (c n at' rec stm tm : Nat) (vi vc : Value) (en : Bool) : List Value :=
  [.int .i64 1, .int .i64 2, .int .i64 100, .int .i64 100, .int .i64 200, .int .i64 4, .int .u64 1000, .int .i64 10, .int .i64 810, .int .i64 910, .pointer (some ⟨b, 0, none⟩), .slice A n c, .int .i64 (at' : Int), .int .u64 (rec : Int), .int .u64 (stm : Int), .int .u64 (tm : Int), vi, vc, .bool en]

set_option maxRecDepth 100000 in
set_option maxHeartbeats 2000000 in
theorem wr_over (p b : Nat) (A : Option Addr) (c n at' rec stm tm : Nat) (vi vc : Value) (en : Bool) (w : World) (h : Blk w p 67 (wrv b A c n at' rec stm tm vi vc en)) (hat : n ≤ at') :
    Calls Try.prog 31 #[.pointer (some ⟨p, 0, none⟩)] w fun e w' => e = .returned (.tuple #[]) ∧ Blk w' p 67 (wrv b A c n at' rec stm tm vi vc en) ∧ Kept (fun _ => False) w w' := by
  have hge : decide ((n : Int) ≤ (at' : Int)) = true := by simp; omega
  have hge2 : (n : Int) ≤ (at' : Int) := by omega
  have HB := Lib.hid h
  clear h
  go_enter Try.func31, Try.ntmps31
  go_wp2_with fail
  refine qregion (fun w' => Kept (fun _ => False) w w' ∧ Blk w' p 67 (wrv b A c n at' rec stm tm vi vc en)) (by kernel_rfl) (by kernel_rfl) ⟨(Kept.refl _ _).drew, HB.out⟩ ?_
  refine qstep (o := ⟨some 5, _, _, _, _, _⟩) (v := ?_) (by rfl) (fun wq hSw => ?_) ?_
  rotate_left
  · (go_simp; try with_reducible rfl)
  try simp only [Act.put, List.setIfInBounds_toArray, List.set_cons_zero, List.set_cons_succ]
  refine qstep (o := ⟨some 6, _, _, _, _, _⟩) (v := ?_) (by rfl) (fun wq hSw => ?_) ?_
  rotate_left
  · (go_simp; try with_reducible rfl)
  try simp only [Act.put, List.setIfInBounds_toArray, List.set_cons_zero, List.set_cons_succ]
  refine qstep (o := ⟨some 7, _, _, _, _, _⟩) (v := ?_) (by rfl) (fun wq hSw => ?_) ?_
  rotate_left
  · (go_simp; try with_reducible rfl)
  try simp only [Act.put, List.setIfInBounds_toArray, List.set_cons_zero, List.set_cons_succ]
  refine qstep (o := ⟨some 8, _, _, _, _, _⟩) (v := ?_) (by rfl) (fun wq hSw => ?_) ?_
  rotate_left
  · (have hb9 := hSw.2; have x11 := hb9.cell (i := 11) rfl; have x12 := hb9.cell (i := 12) rfl; clear hb9; go_simp; try with_reducible rfl)
  try simp only [Act.put, List.setIfInBounds_toArray, List.set_cons_zero, List.set_cons_succ]
  refine qstep (o := ⟨some 9, _, _, _, _, _⟩) (v := ?_) (by rfl) (fun wq hSw => ?_) ?_
  rotate_left
  · (go_simp; try with_reducible rfl)
  try simp only [Act.put, List.setIfInBounds_toArray, List.set_cons_zero, List.set_cons_succ]
  refine qstep (o := ⟨some 10, _, _, _, _, _⟩) (v := ?_) (by rfl) (fun wq hSw => ?_) ?_
  rotate_left
  · (go_simp; try with_reducible rfl)
  try simp only [Act.put, List.setIfInBounds_toArray, List.set_cons_zero, List.set_cons_succ]
  refine qstep (o := ⟨some 11, _, _, _, _, _⟩) (v := ?_) (by rfl) (fun wq hSw => ?_) ?_
  rotate_left
  · (go_simp; try with_reducible rfl)
  try simp only [Act.put, List.setIfInBounds_toArray, List.set_cons_zero, List.set_cons_succ]
  refine qstep (o := ⟨some 12, _, _, _, _, _⟩) (v := ?_) (by rfl) (fun wq hSw => ?_) ?_
  rotate_left
  · (have hb9 := hSw.2; have x11 := hb9.cell (i := 11) rfl; have x12 := hb9.cell (i := 12) rfl; clear hb9; go_simp; try with_reducible rfl)
  try simp only [Act.put, List.setIfInBounds_toArray, List.set_cons_zero, List.set_cons_succ]
  refine qstep (o := ⟨some 13, _, _, _, _, _⟩) (v := ?_) (by rfl) (fun wq hSw => ?_) ?_
  rotate_left
  · (go_simp; try with_reducible rfl)
  try simp only [Act.put, List.setIfInBounds_toArray, List.set_cons_zero, List.set_cons_succ]
  refine qstep (o := ⟨some 14, _, _, _, _, _⟩) (v := .bool true) (by rfl) (fun wq hSw => ?_) ?_
  · (go_simp; try first | (with_reducible rfl) | (simp; omega) | (intros; omega) | simp [*])
  try simp only [Act.put, List.setIfInBounds_toArray, List.set_cons_zero, List.set_cons_succ]
  refine wpQuiet_nil ?_
  intro wz hHeld
  obtain ⟨hK, hQ⟩ := hHeld
  have HK := Lib.hid hK
  have HQ := Lib.hid hQ
  clear hK hQ HB
  go_wp2
  refine bodyPost_ret (v := .tuple #[]) (by first | (simp [results, Try.results31, go_sem]; done) | rfl) rfl ⟨rfl, HQ.out, HK.out⟩

set_option maxRecDepth 100000 in
set_option maxHeartbeats 3000000 in
theorem wr_in (p b : Nat) (A : Option Addr) (c n at' rec stm tm : Nat) (w : World) (q : Nat) (h : Blk w p 67 (wrv b A c n at' rec stm tm (.pointer (some ⟨q, 0, none⟩)) (.pointer none) false)) (xs : List Stp) (hxn : xs.length = n) (hR : Rp w A c xs) (hat : at' < n) (h20 : n ≤ 1000) (g : Nat) (l : List Cel) (k t0 top c1 ph : Nat) (u : ByteArray × Bool) (hm : Mem w b g l k) (hqb : q ≠ b ∧ q ≠ g) (hpq : p ≠ q ∧ p ≠ b ∧ p ≠ g) (hk : k < 9223372036854775808) (hW : Wm 100 200 810 910 1510 l t0 top c1 u) (hR2 : ((top + 1 : Nat) : Int) ≤ 200) (hI : WiAt 1 2 100 100 200 4 1000 10 810 910 w q t0 top l ph) (hph : ph < 4) (f : Bool) (hf : (ph + 1 == 4) = f) (top2 : Nat) (ht2 : (if ph = 3 then top + 1 else top) = top2) :
    Calls Try.prog 31 #[.pointer (some ⟨p, 0, none⟩)] w fun e w' => e = .returned (.tuple #[]) ∧ ∃ l' c', WiAt 1 2 100 100 200 4 1000 10 810 910 w' q t0 top2 l' (ph + 1) ∧ Wm 100 200 810 910 1510 l' t0 top2 c' u ∧ Mem w' b g l' (k + 1) ∧ Blk w' p 67 (wrv b A c n at' rec stm tm (.pointer (some ⟨q, 0, none⟩)) (.pointer none) f) ∧ Kept (fun i => i = p ∨ Own3 q b g i) w w' := by
  have HR := Lib.hid hR
  have HI := Lib.hid hI
  have HM := Lib.hid hm
  have HF := Lib.hid hf
  have HT := Lib.hid ht2
  clear hR hI hm hf ht2
  have hge : decide ((n : Int) ≤ (at' : Int)) = false := by simp; omega
  have hlt2 : (at' : Int) < (n : Int) := by omega
  have HB := Lib.hid h
  clear h
  go_enter Try.func31, Try.ntmps31
  go_wp2_with fail
  refine qregion (fun w' => Kept (fun _ => False) w w' ∧ Blk w' p 67 (wrv b A c n at' rec stm tm (.pointer (some ⟨q, 0, none⟩)) (.pointer none) false)) (by kernel_rfl) (by kernel_rfl) ⟨(Kept.refl _ _).drew, HB.out⟩ ?_
  refine qstep (o := ⟨some 5, _, _, _, _, _⟩) (v := ?_) (by rfl) (fun wq hSw => ?_) ?_
  rotate_left
  · (go_simp; try with_reducible rfl)
  try simp only [Act.put, List.setIfInBounds_toArray, List.set_cons_zero, List.set_cons_succ]
  refine qstep (o := ⟨some 6, _, _, _, _, _⟩) (v := ?_) (by rfl) (fun wq hSw => ?_) ?_
  rotate_left
  · (go_simp; try with_reducible rfl)
  try simp only [Act.put, List.setIfInBounds_toArray, List.set_cons_zero, List.set_cons_succ]
  refine qstep (o := ⟨some 7, _, _, _, _, _⟩) (v := ?_) (by rfl) (fun wq hSw => ?_) ?_
  rotate_left
  · (go_simp; try with_reducible rfl)
  try simp only [Act.put, List.setIfInBounds_toArray, List.set_cons_zero, List.set_cons_succ]
  refine qstep (o := ⟨some 8, _, _, _, _, _⟩) (v := ?_) (by rfl) (fun wq hSw => ?_) ?_
  rotate_left
  · (have hb9 := hSw.2; have x11 := hb9.cell (i := 11) rfl; have x12 := hb9.cell (i := 12) rfl; clear hb9; go_simp; try with_reducible rfl)
  try simp only [Act.put, List.setIfInBounds_toArray, List.set_cons_zero, List.set_cons_succ]
  refine qstep (o := ⟨some 9, _, _, _, _, _⟩) (v := ?_) (by rfl) (fun wq hSw => ?_) ?_
  rotate_left
  · (go_simp; try with_reducible rfl)
  try simp only [Act.put, List.setIfInBounds_toArray, List.set_cons_zero, List.set_cons_succ]
  refine qstep (o := ⟨some 10, _, _, _, _, _⟩) (v := ?_) (by rfl) (fun wq hSw => ?_) ?_
  rotate_left
  · (go_simp; try with_reducible rfl)
  try simp only [Act.put, List.setIfInBounds_toArray, List.set_cons_zero, List.set_cons_succ]
  refine qstep (o := ⟨some 11, _, _, _, _, _⟩) (v := ?_) (by rfl) (fun wq hSw => ?_) ?_
  rotate_left
  · (go_simp; try with_reducible rfl)
  try simp only [Act.put, List.setIfInBounds_toArray, List.set_cons_zero, List.set_cons_succ]
  refine qstep (o := ⟨some 12, _, _, _, _, _⟩) (v := ?_) (by rfl) (fun wq hSw => ?_) ?_
  rotate_left
  · (have hb9 := hSw.2; have x11 := hb9.cell (i := 11) rfl; have x12 := hb9.cell (i := 12) rfl; clear hb9; go_simp; try with_reducible rfl)
  try simp only [Act.put, List.setIfInBounds_toArray, List.set_cons_zero, List.set_cons_succ]
  refine qstep (o := ⟨some 13, _, _, _, _, _⟩) (v := ?_) (by rfl) (fun wq hSw => ?_) ?_
  rotate_left
  · (go_simp; try with_reducible rfl)
  try simp only [Act.put, List.setIfInBounds_toArray, List.set_cons_zero, List.set_cons_succ]
  refine qstep (o := ⟨some 14, _, _, _, _, _⟩) (v := .bool false) (by rfl) (fun wq hSw => ?_) ?_
  · (go_simp; try first | (with_reducible rfl) | (simp; omega) | (intros; omega) | simp [*])
  try simp only [Act.put, List.setIfInBounds_toArray, List.set_cons_zero, List.set_cons_succ]
  refine wpQuiet_nil ?_
  intro wz hHeld
  obtain ⟨hK, hQ⟩ := hHeld
  have HK := Lib.hid hK
  have HQ := Lib.hid hQ
  clear hK hQ HB
  have hxr := HR.out.kept HK.out (fun _ _ h => h)
  obtain ⟨kd, v, dl, fl, hxj⟩ : ∃ kd v dl fl, xs[at']? = some (kd, v, dl, fl) := ⟨_, _, _, _, List.getElem?_eq_getElem (by omega)⟩
  obtain ⟨ga, off, rfl, hga, hcell⟩ := hxr.at (by omega)
  have HCs := Lib.hid (hcell at' _ hxj)
  clear hxr hcell
  rename World => wd
  go_wp2_with fail
  have HQc := Lib.hid (HQ.out.of (w' := wd.drew) rfl)
  have HKc := Lib.hid ((Kept.refl (fun _ => False) wd).drew)
  refine wp_region_held_drew (S := (fun w' => Blk w' p 67 (wrv b (some ⟨ga, off, none⟩) c n at' rec stm tm (.pointer (some ⟨q, 0, none⟩)) (.pointer none) false) ∧ w'.cell? ⟨ga, off + at' * 4, none⟩ = some (.int .i64 kd) ∧ w'.cell? ⟨ga, off + at' * 4 + 1, none⟩ = some (.string v) ∧ w'.cell? ⟨ga, off + at' * 4 + 2, none⟩ = some (.bool dl) ∧ w'.cell? ⟨ga, off + at' * 4 + 3, none⟩ = some (.int .u8 ((fl : Nat) : Int)))) (by kernel_rfl) ?_ (fun hHeld => ?_)
  · exact ⟨HQc.out, cells4 HCs.out HKc.out hga⟩
  refine wpAnyH_take (i := 0) (oi := ⟨some 15, _, _, _, _, _⟩) (v := ?_) rfl (by kernel_rfl) (by kernel_rfl) (by kernel_rfl) (fun _ _ _ h => h) (Or.inl ⟨by rfl, ?_⟩) hHeld ?_
  rotate_left
  · (intro wq hSw; go_simp; try with_reducible rfl)
  try simp only [Act.put, List.setIfInBounds_toArray, List.set_cons_zero, List.set_cons_succ]
  refine wpAnyH_take (i := 1) (oi := ⟨some 16, _, _, _, _, _⟩) (v := ?_) rfl (by kernel_rfl) (by kernel_rfl) (by kernel_rfl) (fun _ _ _ h => h) (Or.inl ⟨by rfl, ?_⟩) hHeld ?_
  rotate_left
  · (intro wq hSw; go_simp; try with_reducible rfl)
  try simp only [Act.put, List.setIfInBounds_toArray, List.set_cons_zero, List.set_cons_succ]
  refine wpAnyH_take (i := 2) (oi := ⟨some 17, _, _, _, _, _⟩) (v := ?_) rfl (by kernel_rfl) (by kernel_rfl) (by kernel_rfl) (fun _ _ _ h => h) (Or.inl ⟨by rfl, ?_⟩) hHeld ?_
  rotate_left
  · (intro wq hSw; go_simp; try with_reducible rfl)
  try simp only [Act.put, List.setIfInBounds_toArray, List.set_cons_zero, List.set_cons_succ]
  refine wpAnyH_take (i := 3) (oi := ⟨some 18, _, _, _, _, _⟩) (v := ?_) rfl (by kernel_rfl) (by kernel_rfl) (by kernel_rfl) (fun _ _ _ h => h) (Or.inl ⟨by rfl, ?_⟩) hHeld ?_
  rotate_left
  · (intro wq hSw; obtain ⟨hb9, c0, c1, c2', c3⟩ := hSw; have x11 := hb9.cell (i := 11) rfl; have x12 := hb9.cell (i := 12) rfl; clear hb9; go_simp; try with_reducible rfl)
  try simp only [Act.put, List.setIfInBounds_toArray, List.set_cons_zero, List.set_cons_succ]
  refine wpAnyH_take (i := 4) (oi := ⟨some 19, _, _, _, _, _⟩) (v := ?_) rfl (by kernel_rfl) (by kernel_rfl) (by kernel_rfl) (fun _ _ _ h => h) (Or.inl ⟨by rfl, ?_⟩) hHeld ?_
  rotate_left
  · (intro wq hSw; go_simp; try with_reducible rfl)
  try simp only [Act.put, List.setIfInBounds_toArray, List.set_cons_zero, List.set_cons_succ]
  refine wpAnyH_take (i := 5) (oi := ⟨some 20, _, _, _, _, _⟩) (v := ?_) rfl (by kernel_rfl) (by kernel_rfl) (by kernel_rfl) (fun _ _ _ h => h) (Or.inl ⟨by rfl, ?_⟩) hHeld ?_
  rotate_left
  · (intro wq hSw; go_simp; try with_reducible rfl)
  try simp only [Act.put, List.setIfInBounds_toArray, List.set_cons_zero, List.set_cons_succ]
  refine wpAnyH_take (i := 6) (oi := ⟨some 21, _, _, _, _, _⟩) (v := ?_) rfl (by kernel_rfl) (by kernel_rfl) (by kernel_rfl) (fun _ _ _ h => h) (Or.inl ⟨by rfl, ?_⟩) hHeld ?_
  rotate_left
  · (intro wq hSw; go_simp; try with_reducible rfl)
  try simp only [Act.put, List.setIfInBounds_toArray, List.set_cons_zero, List.set_cons_succ]
  refine wpAnyH_take (i := 7) (oi := ⟨some 22, _, _, _, _, _⟩) (v := ?_) rfl (by kernel_rfl) (by kernel_rfl) (by kernel_rfl) (fun _ _ _ h => h) (Or.inl ⟨by rfl, ?_⟩) hHeld ?_
  rotate_left
  · (intro wq hSw; obtain ⟨hb9, c0, c1, c2', c3⟩ := hSw; have x11 := hb9.cell (i := 11) rfl; have x12 := hb9.cell (i := 12) rfl; clear hb9; go_simp; try with_reducible rfl)
  try simp only [Act.put, List.setIfInBounds_toArray, List.set_cons_zero, List.set_cons_succ]
  refine wpAnyH_take (i := 8) (oi := ⟨some 23, _, _, _, _, _⟩) (v := .pointer (some ⟨ga, off + at' * 4, none⟩)) rfl (by kernel_rfl) (by kernel_rfl) (by kernel_rfl) (fun _ _ _ h => h) (Or.inl ⟨by rfl, ?_⟩) hHeld ?_
  · (intro wq hSw; go_simp; try first | (with_reducible rfl) | (simp; omega) | (intros; omega) | simp [*])
  try simp only [Act.put, List.setIfInBounds_toArray, List.set_cons_zero, List.set_cons_succ]
  refine wpAnyH_take (i := 9) (oi := ⟨some 24, _, _, _, _, _⟩) (v := ?_) rfl (by kernel_rfl) (by kernel_rfl) (by kernel_rfl) (fun _ _ _ h => h) (Or.inl ⟨by rfl, ?_⟩) hHeld ?_
  rotate_left
  · (intro wq hSw; obtain ⟨hb9, c0, c1, c2', c3⟩ := hSw; have x11 := hb9.cell (i := 11) rfl; have x12 := hb9.cell (i := 12) rfl; clear hb9; go_simp; try with_reducible rfl)
  try simp only [Act.put, List.setIfInBounds_toArray, List.set_cons_zero, List.set_cons_succ]
  refine wpAnyH_ready (rs := [10]) (by kernel_rfl) (by simp) ?_
  refine AllReadyH.cons (o := ⟨some 2, _, _, _, _, _⟩) rfl (fun KK hK => ?_) (AllReadyH.nil)
  go_simp
  replace HQc := Lib.hid (HQc.out.alloc (.cells #[.int .i64 0, .string ⟨#[]⟩, .bool false, .int .u8 0] 36))
  replace HKc := Lib.hid (HKc.out.alloc (.cells #[.int .i64 0, .string ⟨#[]⟩, .bool false, .int .u8 0] 36))
  refine hK.out _ _ ?_ (fun hHeld2 => ?_)
  · exact ⟨HQc.out, cells4 HCs.out HKc.out hga⟩
  clear hK KK hHeld
  have hHeld := hHeld2
  clear hHeld2
  try simp only [Act.put, List.setIfInBounds_toArray, List.set_cons_zero, List.set_cons_succ]
  refine wpAnyH_ready (rs := [11]) (by kernel_rfl) (by simp) ?_
  refine AllReadyH.cons (o := ⟨none, _, _, _, _, _⟩) rfl (fun KK hK => ?_) (AllReadyH.nil)
  go_simp
  replace HQc := Lib.hid (show Blk ((wd.alloc (.cells #[.int .i64 kd, .string v, .bool dl, .int .u8 (fl : Int)] 36)).drew) p 67 (wrv b (some ⟨ga, off, none⟩) c n at' rec stm tm (.pointer (some ⟨q, 0, none⟩)) (.pointer none) false) from (HQ.out.alloc (.cells #[.int .i64 kd, .string v, .bool dl, .int .u8 (fl : Int)] 36)))
  replace HKc := Lib.hid (((Kept.refl (fun _ => False) wd).alloc (.cells #[.int .i64 kd, .string v, .bool dl, .int .u8 (fl : Int)] 36)).drew)
  refine hK.out _ _ ?_ (fun hHeld2 => ?_)
  · exact ⟨HQc.out, cells4 HCs.out HKc.out hga⟩
  clear hK KK hHeld
  have hHeld := hHeld2
  clear hHeld2
  try simp only [Act.put, List.setIfInBounds_toArray, List.set_cons_zero, List.set_cons_succ]
  refine wpAnyH_done (by kernel_rfl) ?_ _
  clear hHeld
  have HS := Lib.hid (show Blk ((wd.alloc (.cells #[.int .i64 kd, .string v, .bool dl, .int .u8 (fl : Int)] 36)).drew) wd.heap.size 36 [.int .i64 kd, .string v, .bool dl, .int .u8 (fl : Int)] from Blk.new wd [.int .i64 kd, .string v, .bool dl, .int .u8 (fl : Int)] 36)
  have HK2 := Lib.hid (HK.out.trans HKc.out (fun _ _ h => h))
  clear HQ HK HKc HCs
  have hQe := HQc.out
  have x18 := hQe.cell (i := 18) rfl
  have x16 := hQe.cell (i := 16) rfl
  clear hQe
  replace HI := Lib.hid (HI.out.kept HK2.out (fun h => h))
  replace HM := Lib.hid (HM.out.kept HK2.out (fun h => h) (fun h => h))
  have HKw := Lib.hid (HK2.out.mono (T := fun i => i = p ∨ Own3 q b g i) (fun _ h => h.elim))
  clear HK2 HS
  go_wp2_with fail
  clear x18 x16
  rename World => wd
  generalize (wd.alloc (.cells #[.int .i64 kd, .string v, .bool dl, .int .u8 (fl : Int)] 36)).drew = V at *
  have HQc := Lib.hid (HQc.out.of (w' := V.drew) rfl)
  replace HI := Lib.hid (HI.out.kept (Y := fun _ => False) (Kept.refl _ V).drew (fun h => h))
  replace HM := Lib.hid HM.out.drew
  replace HKw := Lib.hid HKw.out.drew
  refine wp_region_held_drew (S := (fun w' => w'.cell? ⟨p, 10, none⟩ = some (.pointer (some ⟨b, 0, none⟩)) ∧ w'.cell? ⟨p, 16, none⟩ = some (.pointer (some ⟨q, 0, none⟩)))) (by kernel_rfl) ?_ (fun hHeld => ?_)
  · exact ⟨HQc.out.cell (i := 10) rfl, HQc.out.cell (i := 16) rfl⟩
  generalize V.drew = G at *
  refine wpAnyH_take (i := 0) (oi := ⟨some 117, _, _, _, _, _⟩) (v := ?_) rfl (by kernel_rfl) (by kernel_rfl) (by kernel_rfl) (fun _ _ _ h => h) (Or.inl ⟨by rfl, ?_⟩) hHeld ?_
  rotate_left
  · (intro wq hSw; go_simp; try with_reducible rfl)
  try simp only [Act.put, List.setIfInBounds_toArray, List.set_cons_zero, List.set_cons_succ]
  refine wpAnyH_take (i := 1) (oi := ⟨some 118, _, _, _, _, _⟩) (v := ?_) rfl (by kernel_rfl) (by kernel_rfl) (by kernel_rfl) (fun _ _ _ h => h) (Or.inl ⟨by rfl, ?_⟩) hHeld ?_
  rotate_left
  · (intro wq hSw; go_simp; try with_reducible rfl)
  try simp only [Act.put, List.setIfInBounds_toArray, List.set_cons_zero, List.set_cons_succ]
  refine wpAnyH_take (i := 2) (oi := ⟨some 119, _, _, _, _, _⟩) (v := ?_) rfl (by kernel_rfl) (by kernel_rfl) (by kernel_rfl) (fun _ _ _ h => h) (Or.inl ⟨by rfl, ?_⟩) hHeld ?_
  rotate_left
  · (intro wq hSw; go_simp; try with_reducible rfl)
  try simp only [Act.put, List.setIfInBounds_toArray, List.set_cons_zero, List.set_cons_succ]
  refine wpAnyH_take (i := 3) (oi := ⟨some 120, _, _, _, _, _⟩) (v := ?_) rfl (by kernel_rfl) (by kernel_rfl) (by kernel_rfl) (fun _ _ _ h => h) (Or.inl ⟨by rfl, ?_⟩) hHeld ?_
  rotate_left
  · (intro wq hSw; go_simp; try with_reducible rfl)
  try simp only [Act.put, List.setIfInBounds_toArray, List.set_cons_zero, List.set_cons_succ]
  refine wpAnyH_take (i := 4) (oi := ⟨some 121, _, _, _, _, _⟩) (v := ?_) rfl (by kernel_rfl) (by kernel_rfl) (by kernel_rfl) (fun _ _ _ h => h) (Or.inl ⟨by rfl, ?_⟩) hHeld ?_
  rotate_left
  · (intro wq hSw; obtain ⟨x10, x16⟩ := hSw; go_simp; try with_reducible rfl)
  try simp only [Act.put, List.setIfInBounds_toArray, List.set_cons_zero, List.set_cons_succ]
  refine wpAnyH_take (i := 5) (oi := ⟨some 122, _, _, _, _, _⟩) (v := ?_) rfl (by kernel_rfl) (by kernel_rfl) (by kernel_rfl) (fun _ _ _ h => h) (Or.inl ⟨by rfl, ?_⟩) hHeld ?_
  rotate_left
  · (intro wq hSw; go_simp; try with_reducible rfl)
  try simp only [Act.put, List.setIfInBounds_toArray, List.set_cons_zero, List.set_cons_succ]
  refine wpAnyH_take (i := 6) (oi := ⟨some 123, _, _, _, _, _⟩) (v := ?_) rfl (by kernel_rfl) (by kernel_rfl) (by kernel_rfl) (fun _ _ _ h => h) (Or.inl ⟨by rfl, ?_⟩) hHeld ?_
  rotate_left
  · (intro wq hSw; go_simp; try with_reducible rfl)
  try simp only [Act.put, List.setIfInBounds_toArray, List.set_cons_zero, List.set_cons_succ]
  refine wpAnyH_take (i := 7) (oi := ⟨some 124, _, _, _, _, _⟩) (v := ?_) rfl (by kernel_rfl) (by kernel_rfl) (by kernel_rfl) (fun _ _ _ h => h) (Or.inl ⟨by rfl, ?_⟩) hHeld ?_
  rotate_left
  · (intro wq hSw; go_simp; try with_reducible rfl)
  try simp only [Act.put, List.setIfInBounds_toArray, List.set_cons_zero, List.set_cons_succ]
  refine wpAnyH_take (i := 8) (oi := ⟨some 125, _, _, _, _, _⟩) (v := ?_) rfl (by kernel_rfl) (by kernel_rfl) (by kernel_rfl) (fun _ _ _ h => h) (Or.inl ⟨by rfl, ?_⟩) hHeld ?_
  rotate_left
  · (intro wq hSw; obtain ⟨x10, x16⟩ := hSw; go_simp; try with_reducible rfl)
  try simp only [Act.put, List.setIfInBounds_toArray, List.set_cons_zero, List.set_cons_succ]
  refine wpAnyH_ready (rs := [9]) (by kernel_rfl) (by simp) ?_
  refine AllReadyH.cons (o := ⟨some 126, _, _, _, _, _⟩) rfl (fun KK hK => ?_) AllReadyH.nil
  go_simp
  go_at_call 19
  refine (wi_step 1 2 100 100 200 4 1000 10 810 910 klim kreach q ph _ b g l k HM.out hqb.1 hqb.2 hk 1510 kgeo t0 top c1 u hW hR2 HI.out hph).mono ?_; rintro e w3 ⟨l', top', c', he, htop, hI3, hW3, hM3, hK3⟩
  rw [HF.out] at he
  rw [HT.out] at htop
  subst he
  subst htop
  replace HQc := Lib.hid (hK3.blk HQc.out (fun e => by rcases e with e | e | e <;> omega))
  replace HI := Lib.hid hI3
  replace HM := Lib.hid hM3
  replace HKw := Lib.hid (HKw.out.trans hK3 (fun _ _ h => .inr h))
  have hQe := HQc.out
  have y18 := hQe.cell (i := 18) rfl
  have u18 := hQe.frozen 18
  clear hQe hI3 hM3 hK3
  refine hK.out _ _ ?_ (fun hHeld2 => ?_)
  · exact ⟨HQc.out.cell (i := 10) rfl, HQc.out.cell (i := 16) rfl⟩
  clear hK KK hHeld
  have hHeld := hHeld2
  clear hHeld2
  try simp only [Act.put, List.setIfInBounds_toArray, List.set_cons_zero, List.set_cons_succ]
  refine wpAnyH_take (i := 10) (oi := ⟨some 127, _, _, _, _, _⟩) (v := ?_) rfl (by kernel_rfl) (by kernel_rfl) (by kernel_rfl) (fun _ _ _ h => h) (Or.inl ⟨by rfl, ?_⟩) hHeld ?_
  rotate_left
  · (intro wq hSw; go_simp; try with_reducible rfl)
  try simp only [Act.put, List.setIfInBounds_toArray, List.set_cons_zero, List.set_cons_succ]
  refine wpAnyH_take (i := 11) (oi := ⟨some 128, _, _, _, _, _⟩) (v := ?_) rfl (by kernel_rfl) (by kernel_rfl) (by kernel_rfl) (fun _ _ _ h => h) (Or.inl ⟨by rfl, ?_⟩) hHeld ?_
  rotate_left
  · (intro wq hSw; go_simp; try with_reducible rfl)
  try simp only [Act.put, List.setIfInBounds_toArray, List.set_cons_zero, List.set_cons_succ]
  refine wpAnyH_ready (rs := [12]) (by kernel_rfl) (by simp) ?_
  refine AllReadyH.cons (o := ⟨none, _, _, _, _, _⟩) rfl (fun KK hK => ?_) AllReadyH.nil
  go_simp
  replace HQc := Lib.hid (HQc.out.set 18 (.bool f))
  replace HM := Lib.hid (HM.out.farq (q := p) (by unfold Own; omega) 18 (.bool f))
  replace HI := Lib.hid (HI.out.kept ((Kept.refl (fun i => i = p) w3).setCell (a := ⟨p, 18, none⟩) (fun _ => rfl) (.bool f)) (fun e => by omega))
  replace HKw := Lib.hid (HKw.out.setCell (a := ⟨p, 18, none⟩) (fun _ => .inl rfl) (.bool f))
  refine hK.out _ _ ?_ (fun hHeld2 => ?_)
  · exact ⟨HQc.out.cell (i := 10) rfl, HQc.out.cell (i := 16) rfl⟩
  clear hK KK hHeld
  have hHeld := hHeld2
  clear hHeld2
  try simp only [Act.put, List.setIfInBounds_toArray, List.set_cons_zero, List.set_cons_succ]
  refine wpAnyH_done (by kernel_rfl) ?_ _
  clear hHeld
  go_wp2
  go_end0
  exact ⟨rfl, l', c', HI.out, hW3, HM.out, HQc.out, HKw.out⟩

set_option maxRecDepth 100000 in
set_option maxHeartbeats 3000000 in
theorem wr_cut (p b : Nat) (A : Option Addr) (c n at' rec stm tm : Nat) (w : World) (q : Nat) (h : Blk w p 67 (wrv b A c n at' rec stm tm (.pointer none) (.pointer (some ⟨q, 0, none⟩)) false)) (xs : List Stp) (hxn : xs.length = n) (hR : Rp w A c xs) (hat : at' < n) (h20 : n ≤ 1000) (g : Nat) (l : List Cel) (k f t0 top c1 : Nat) (u : ByteArray × Bool) (hm : Mem w b g l k) (hqb : q ≠ b ∧ q ≠ g) (hpq : p ≠ q ∧ p ≠ b ∧ p ≠ g) (hk : k < 9223372036854775808) (hW : Wm 100 200 810 910 1510 l t0 top c1 u) (hft : f ≤ t0) (hI : WtAt 1 2 100 100 200 4 1000 10 810 910 w q f t0 top false) :
    Calls Try.prog 31 #[.pointer (some ⟨p, 0, none⟩)] w fun e w' => e = .returned (.tuple #[]) ∧ ∃ l', Wm 100 200 810 910 1510 l' t0 top c1 u ∧ Mem w' b g l' (k + 1) ∧ Kept (fun i => i = p ∨ Own3 q b g i) w w' ∧ ((WtAt 1 2 100 100 200 4 1000 10 810 910 w' q f t0 top false ∧ Blk w' p 67 (wrv b A c n at' rec stm tm (.pointer none) (.pointer (some ⟨q, 0, none⟩)) false)) ∨ Blk w' p 67 (wrv b A c n (at' + 1) rec stm tm (.pointer none) (.pointer none) false)) := by
  have HR := Lib.hid hR
  have HI := Lib.hid hI
  have HM := Lib.hid hm
  clear hR hI hm
  have hge : decide ((n : Int) ≤ (at' : Int)) = false := by simp; omega
  have hlt2 : (at' : Int) < (n : Int) := by omega
  have HB := Lib.hid h
  clear h
  go_enter Try.func31, Try.ntmps31
  go_wp2_with fail
  refine qregion (fun w' => Kept (fun _ => False) w w' ∧ Blk w' p 67 (wrv b A c n at' rec stm tm (.pointer none) (.pointer (some ⟨q, 0, none⟩)) false)) (by kernel_rfl) (by kernel_rfl) ⟨(Kept.refl _ _).drew, HB.out⟩ ?_
  refine qstep (o := ⟨some 5, _, _, _, _, _⟩) (v := ?_) (by rfl) (fun wq hSw => ?_) ?_
  rotate_left
  · (go_simp; try with_reducible rfl)
  try simp only [Act.put, List.setIfInBounds_toArray, List.set_cons_zero, List.set_cons_succ]
  refine qstep (o := ⟨some 6, _, _, _, _, _⟩) (v := ?_) (by rfl) (fun wq hSw => ?_) ?_
  rotate_left
  · (go_simp; try with_reducible rfl)
  try simp only [Act.put, List.setIfInBounds_toArray, List.set_cons_zero, List.set_cons_succ]
  refine qstep (o := ⟨some 7, _, _, _, _, _⟩) (v := ?_) (by rfl) (fun wq hSw => ?_) ?_
  rotate_left
  · (go_simp; try with_reducible rfl)
  try simp only [Act.put, List.setIfInBounds_toArray, List.set_cons_zero, List.set_cons_succ]
  refine qstep (o := ⟨some 8, _, _, _, _, _⟩) (v := ?_) (by rfl) (fun wq hSw => ?_) ?_
  rotate_left
  · (have hb9 := hSw.2; have x11 := hb9.cell (i := 11) rfl; have x12 := hb9.cell (i := 12) rfl; clear hb9; go_simp; try with_reducible rfl)
  try simp only [Act.put, List.setIfInBounds_toArray, List.set_cons_zero, List.set_cons_succ]
  refine qstep (o := ⟨some 9, _, _, _, _, _⟩) (v := ?_) (by rfl) (fun wq hSw => ?_) ?_
  rotate_left
  · (go_simp; try with_reducible rfl)
  try simp only [Act.put, List.setIfInBounds_toArray, List.set_cons_zero, List.set_cons_succ]
  refine qstep (o := ⟨some 10, _, _, _, _, _⟩) (v := ?_) (by rfl) (fun wq hSw => ?_) ?_
  rotate_left
  · (go_simp; try with_reducible rfl)
  try simp only [Act.put, List.setIfInBounds_toArray, List.set_cons_zero, List.set_cons_succ]
  refine qstep (o := ⟨some 11, _, _, _, _, _⟩) (v := ?_) (by rfl) (fun wq hSw => ?_) ?_
  rotate_left
  · (go_simp; try with_reducible rfl)
  try simp only [Act.put, List.setIfInBounds_toArray, List.set_cons_zero, List.set_cons_succ]
  refine qstep (o := ⟨some 12, _, _, _, _, _⟩) (v := ?_) (by rfl) (fun wq hSw => ?_) ?_
  rotate_left
  · (have hb9 := hSw.2; have x11 := hb9.cell (i := 11) rfl; have x12 := hb9.cell (i := 12) rfl; clear hb9; go_simp; try with_reducible rfl)
  try simp only [Act.put, List.setIfInBounds_toArray, List.set_cons_zero, List.set_cons_succ]
  refine qstep (o := ⟨some 13, _, _, _, _, _⟩) (v := ?_) (by rfl) (fun wq hSw => ?_) ?_
  rotate_left
  · (go_simp; try with_reducible rfl)
  try simp only [Act.put, List.setIfInBounds_toArray, List.set_cons_zero, List.set_cons_succ]
  refine qstep (o := ⟨some 14, _, _, _, _, _⟩) (v := .bool false) (by rfl) (fun wq hSw => ?_) ?_
  · (go_simp; try first | (with_reducible rfl) | (simp; omega) | (intros; omega) | simp [*])
  try simp only [Act.put, List.setIfInBounds_toArray, List.set_cons_zero, List.set_cons_succ]
  refine wpQuiet_nil ?_
  intro wz hHeld
  obtain ⟨hK, hQ⟩ := hHeld
  have HK := Lib.hid hK
  have HQ := Lib.hid hQ
  clear hK hQ HB
  have hxr := HR.out.kept HK.out (fun _ _ h => h)
  obtain ⟨kd, v, dl, fl, hxj⟩ : ∃ kd v dl fl, xs[at']? = some (kd, v, dl, fl) := ⟨_, _, _, _, List.getElem?_eq_getElem (by omega)⟩
  obtain ⟨ga, off, rfl, hga, hcell⟩ := hxr.at (by omega)
  have HCs := Lib.hid (hcell at' _ hxj)
  clear hxr hcell
  rename World => wd
  go_wp2_with fail
  have HQc := Lib.hid (HQ.out.of (w' := wd.drew) rfl)
  have HKc := Lib.hid ((Kept.refl (fun _ => False) wd).drew)
  refine wp_region_held_drew (S := (fun w' => Blk w' p 67 (wrv b (some ⟨ga, off, none⟩) c n at' rec stm tm (.pointer none) (.pointer (some ⟨q, 0, none⟩)) false) ∧ w'.cell? ⟨ga, off + at' * 4, none⟩ = some (.int .i64 kd) ∧ w'.cell? ⟨ga, off + at' * 4 + 1, none⟩ = some (.string v) ∧ w'.cell? ⟨ga, off + at' * 4 + 2, none⟩ = some (.bool dl) ∧ w'.cell? ⟨ga, off + at' * 4 + 3, none⟩ = some (.int .u8 ((fl : Nat) : Int)))) (by kernel_rfl) ?_ (fun hHeld => ?_)
  · exact ⟨HQc.out, cells4 HCs.out HKc.out hga⟩
  refine wpAnyH_take (i := 0) (oi := ⟨some 15, _, _, _, _, _⟩) (v := ?_) rfl (by kernel_rfl) (by kernel_rfl) (by kernel_rfl) (fun _ _ _ h => h) (Or.inl ⟨by rfl, ?_⟩) hHeld ?_
  rotate_left
  · (intro wq hSw; go_simp; try with_reducible rfl)
  try simp only [Act.put, List.setIfInBounds_toArray, List.set_cons_zero, List.set_cons_succ]
  refine wpAnyH_take (i := 1) (oi := ⟨some 16, _, _, _, _, _⟩) (v := ?_) rfl (by kernel_rfl) (by kernel_rfl) (by kernel_rfl) (fun _ _ _ h => h) (Or.inl ⟨by rfl, ?_⟩) hHeld ?_
  rotate_left
  · (intro wq hSw; go_simp; try with_reducible rfl)
  try simp only [Act.put, List.setIfInBounds_toArray, List.set_cons_zero, List.set_cons_succ]
  refine wpAnyH_take (i := 2) (oi := ⟨some 17, _, _, _, _, _⟩) (v := ?_) rfl (by kernel_rfl) (by kernel_rfl) (by kernel_rfl) (fun _ _ _ h => h) (Or.inl ⟨by rfl, ?_⟩) hHeld ?_
  rotate_left
  · (intro wq hSw; go_simp; try with_reducible rfl)
  try simp only [Act.put, List.setIfInBounds_toArray, List.set_cons_zero, List.set_cons_succ]
  refine wpAnyH_take (i := 3) (oi := ⟨some 18, _, _, _, _, _⟩) (v := ?_) rfl (by kernel_rfl) (by kernel_rfl) (by kernel_rfl) (fun _ _ _ h => h) (Or.inl ⟨by rfl, ?_⟩) hHeld ?_
  rotate_left
  · (intro wq hSw; obtain ⟨hb9, c0, c1, c2', c3⟩ := hSw; have x11 := hb9.cell (i := 11) rfl; have x12 := hb9.cell (i := 12) rfl; clear hb9; go_simp; try with_reducible rfl)
  try simp only [Act.put, List.setIfInBounds_toArray, List.set_cons_zero, List.set_cons_succ]
  refine wpAnyH_take (i := 4) (oi := ⟨some 19, _, _, _, _, _⟩) (v := ?_) rfl (by kernel_rfl) (by kernel_rfl) (by kernel_rfl) (fun _ _ _ h => h) (Or.inl ⟨by rfl, ?_⟩) hHeld ?_
  rotate_left
  · (intro wq hSw; go_simp; try with_reducible rfl)
  try simp only [Act.put, List.setIfInBounds_toArray, List.set_cons_zero, List.set_cons_succ]
  refine wpAnyH_take (i := 5) (oi := ⟨some 20, _, _, _, _, _⟩) (v := ?_) rfl (by kernel_rfl) (by kernel_rfl) (by kernel_rfl) (fun _ _ _ h => h) (Or.inl ⟨by rfl, ?_⟩) hHeld ?_
  rotate_left
  · (intro wq hSw; go_simp; try with_reducible rfl)
  try simp only [Act.put, List.setIfInBounds_toArray, List.set_cons_zero, List.set_cons_succ]
  refine wpAnyH_take (i := 6) (oi := ⟨some 21, _, _, _, _, _⟩) (v := ?_) rfl (by kernel_rfl) (by kernel_rfl) (by kernel_rfl) (fun _ _ _ h => h) (Or.inl ⟨by rfl, ?_⟩) hHeld ?_
  rotate_left
  · (intro wq hSw; go_simp; try with_reducible rfl)
  try simp only [Act.put, List.setIfInBounds_toArray, List.set_cons_zero, List.set_cons_succ]
  refine wpAnyH_take (i := 7) (oi := ⟨some 22, _, _, _, _, _⟩) (v := ?_) rfl (by kernel_rfl) (by kernel_rfl) (by kernel_rfl) (fun _ _ _ h => h) (Or.inl ⟨by rfl, ?_⟩) hHeld ?_
  rotate_left
  · (intro wq hSw; obtain ⟨hb9, c0, c1, c2', c3⟩ := hSw; have x11 := hb9.cell (i := 11) rfl; have x12 := hb9.cell (i := 12) rfl; clear hb9; go_simp; try with_reducible rfl)
  try simp only [Act.put, List.setIfInBounds_toArray, List.set_cons_zero, List.set_cons_succ]
  refine wpAnyH_take (i := 8) (oi := ⟨some 23, _, _, _, _, _⟩) (v := .pointer (some ⟨ga, off + at' * 4, none⟩)) rfl (by kernel_rfl) (by kernel_rfl) (by kernel_rfl) (fun _ _ _ h => h) (Or.inl ⟨by rfl, ?_⟩) hHeld ?_
  · (intro wq hSw; go_simp; try first | (with_reducible rfl) | (simp; omega) | (intros; omega) | simp [*])
  try simp only [Act.put, List.setIfInBounds_toArray, List.set_cons_zero, List.set_cons_succ]
  refine wpAnyH_take (i := 9) (oi := ⟨some 24, _, _, _, _, _⟩) (v := ?_) rfl (by kernel_rfl) (by kernel_rfl) (by kernel_rfl) (fun _ _ _ h => h) (Or.inl ⟨by rfl, ?_⟩) hHeld ?_
  rotate_left
  · (intro wq hSw; obtain ⟨hb9, c0, c1, c2', c3⟩ := hSw; have x11 := hb9.cell (i := 11) rfl; have x12 := hb9.cell (i := 12) rfl; clear hb9; go_simp; try with_reducible rfl)
  try simp only [Act.put, List.setIfInBounds_toArray, List.set_cons_zero, List.set_cons_succ]
  refine wpAnyH_ready (rs := [10]) (by kernel_rfl) (by simp) ?_
  refine AllReadyH.cons (o := ⟨some 2, _, _, _, _, _⟩) rfl (fun KK hK => ?_) (AllReadyH.nil)
  go_simp
  replace HQc := Lib.hid (HQc.out.alloc (.cells #[.int .i64 0, .string ⟨#[]⟩, .bool false, .int .u8 0] 36))
  replace HKc := Lib.hid (HKc.out.alloc (.cells #[.int .i64 0, .string ⟨#[]⟩, .bool false, .int .u8 0] 36))
  refine hK.out _ _ ?_ (fun hHeld2 => ?_)
  · exact ⟨HQc.out, cells4 HCs.out HKc.out hga⟩
  clear hK KK hHeld
  have hHeld := hHeld2
  clear hHeld2
  try simp only [Act.put, List.setIfInBounds_toArray, List.set_cons_zero, List.set_cons_succ]
  refine wpAnyH_ready (rs := [11]) (by kernel_rfl) (by simp) ?_
  refine AllReadyH.cons (o := ⟨none, _, _, _, _, _⟩) rfl (fun KK hK => ?_) (AllReadyH.nil)
  go_simp
  replace HQc := Lib.hid (show Blk ((wd.alloc (.cells #[.int .i64 kd, .string v, .bool dl, .int .u8 (fl : Int)] 36)).drew) p 67 (wrv b (some ⟨ga, off, none⟩) c n at' rec stm tm (.pointer none) (.pointer (some ⟨q, 0, none⟩)) false) from (HQ.out.alloc (.cells #[.int .i64 kd, .string v, .bool dl, .int .u8 (fl : Int)] 36)))
  replace HKc := Lib.hid (((Kept.refl (fun _ => False) wd).alloc (.cells #[.int .i64 kd, .string v, .bool dl, .int .u8 (fl : Int)] 36)).drew)
  refine hK.out _ _ ?_ (fun hHeld2 => ?_)
  · exact ⟨HQc.out, cells4 HCs.out HKc.out hga⟩
  clear hK KK hHeld
  have hHeld := hHeld2
  clear hHeld2
  try simp only [Act.put, List.setIfInBounds_toArray, List.set_cons_zero, List.set_cons_succ]
  refine wpAnyH_done (by kernel_rfl) ?_ _
  clear hHeld
  have HS := Lib.hid (show Blk ((wd.alloc (.cells #[.int .i64 kd, .string v, .bool dl, .int .u8 (fl : Int)] 36)).drew) wd.heap.size 36 [.int .i64 kd, .string v, .bool dl, .int .u8 (fl : Int)] from Blk.new wd [.int .i64 kd, .string v, .bool dl, .int .u8 (fl : Int)] 36)
  have HK2 := Lib.hid (HK.out.trans HKc.out (fun _ _ h => h))
  clear HQ HK HKc HCs
  have hQe := HQc.out
  have x18 := hQe.cell (i := 18) rfl
  have x16 := hQe.cell (i := 16) rfl
  have x17 := hQe.cell (i := 17) rfl
  clear hQe
  replace HI := Lib.hid (HI.out.kept HK2.out (fun h => h))
  replace HM := Lib.hid (HM.out.kept HK2.out (fun h => h) (fun h => h))
  have HKw := Lib.hid (HK2.out.mono (T := fun i => i = p ∨ Own3 q b g i) (fun _ h => h.elim))
  clear HK2 HS
  go_wp2_with fail
  clear x18 x16 x17
  rename World => wd
  generalize (wd.alloc (.cells #[.int .i64 kd, .string v, .bool dl, .int .u8 (fl : Int)] 36)).drew = V at *
  refine qtail 8 (fun w' => Kept (fun _ => False) V w' ∧ Blk w' p 67 (wrv b (some ⟨ga, off, none⟩) c n at' rec stm tm (.pointer none) (.pointer (some ⟨q, 0, none⟩)) false)) (by kernel_rfl) (by kernel_rfl) ⟨(Kept.refl _ _).drew, HQc.out⟩ ?_
  simp only [List.take_succ_cons, List.take_zero, List.drop_succ_cons, List.drop_zero]
  refine qstep (o := ⟨some 135, _, _, _, _, _⟩) (v := ?_) (by rfl) (fun wq hSw => ?_) ?_
  rotate_left
  · (go_simp; try with_reducible rfl)
  try simp only [Act.put, List.setIfInBounds_toArray, List.set_cons_zero, List.set_cons_succ]
  refine qstep (o := ⟨some 136, _, _, _, _, _⟩) (v := ?_) (by rfl) (fun wq hSw => ?_) ?_
  rotate_left
  · (go_simp; try with_reducible rfl)
  try simp only [Act.put, List.setIfInBounds_toArray, List.set_cons_zero, List.set_cons_succ]
  refine qstep (o := ⟨some 137, _, _, _, _, _⟩) (v := ?_) (by rfl) (fun wq hSw => ?_) ?_
  rotate_left
  · (go_simp; try with_reducible rfl)
  try simp only [Act.put, List.setIfInBounds_toArray, List.set_cons_zero, List.set_cons_succ]
  refine qstep (o := ⟨some 138, _, _, _, _, _⟩) (v := ?_) (by rfl) (fun wq hSw => ?_) ?_
  rotate_left
  · (have hb9 := hSw.2; have x10 := hb9.cell (i := 10) rfl; have x17 := hb9.cell (i := 17) rfl; clear hb9; go_simp; try with_reducible rfl)
  try simp only [Act.put, List.setIfInBounds_toArray, List.set_cons_zero, List.set_cons_succ]
  refine qstep (o := ⟨some 139, _, _, _, _, _⟩) (v := ?_) (by rfl) (fun wq hSw => ?_) ?_
  rotate_left
  · (go_simp; try with_reducible rfl)
  try simp only [Act.put, List.setIfInBounds_toArray, List.set_cons_zero, List.set_cons_succ]
  refine qstep (o := ⟨some 140, _, _, _, _, _⟩) (v := ?_) (by rfl) (fun wq hSw => ?_) ?_
  rotate_left
  · (go_simp; try with_reducible rfl)
  try simp only [Act.put, List.setIfInBounds_toArray, List.set_cons_zero, List.set_cons_succ]
  refine qstep (o := ⟨some 141, _, _, _, _, _⟩) (v := ?_) (by rfl) (fun wq hSw => ?_) ?_
  rotate_left
  · (go_simp; try with_reducible rfl)
  try simp only [Act.put, List.setIfInBounds_toArray, List.set_cons_zero, List.set_cons_succ]
  refine qstep (o := ⟨some 142, _, _, _, _, _⟩) (v := ?_) (by rfl) (fun wq hSw => ?_) ?_
  rotate_left
  · (have hb9 := hSw.2; have x10 := hb9.cell (i := 10) rfl; have x17 := hb9.cell (i := 17) rfl; clear hb9; go_simp; try with_reducible rfl)
  try simp only [Act.put, List.setIfInBounds_toArray, List.set_cons_zero, List.set_cons_succ]
  refine wpQuiet_nil ?_
  intro wz hHeld
  obtain ⟨hK, hQ⟩ := hHeld
  replace HI := Lib.hid (HI.out.kept hK (fun h => h))
  replace HM := Lib.hid (HM.out.kept hK (fun h => h) (fun h => h))
  replace HKw := Lib.hid (HKw.out.trans hK (fun _ _ h => h.elim))
  replace HQc := Lib.hid hQ
  clear hK hQ
  go_wp2_with fail
  refine (wt_step 1 2 100 100 200 4 1000 10 810 910 klim kreach q f _ b g l k HM.out hqb.1 hqb.2 hk 1510 kgeo t0 top c1 u hW hft HI.out).mono ?_; rintro e w3 ⟨fin, l', rfl, hI3, hW3, hM3, hK3⟩
  have hQ3 := hK3.blk HQc.out (fun e => by rcases e with e | e | e <;> omega)
  have HI3 := Lib.hid hI3
  have HM3 := Lib.hid hM3
  have HK3 := Lib.hid (HKw.out.trans hK3 (fun _ _ h => .inr h))
  have y12 := hQ3.cell (i := 12) rfl
  have u12 := hQ3.frozen 12
  have y17 := hQ3.cell (i := 17) rfl
  have u17 := hQ3.frozen 17
  have HQ3 := Lib.hid hQ3
  clear hQ3 hI3 hM3 hK3 HI HM HKw HQc
  cases fin
  · go_wp2
    go_end0
    exact ⟨rfl, l', hW3, HM3.out, HK3.out, .inl ⟨HI3.out, HQ3.out⟩⟩
  · go_wp2
    go_end0
    refine ⟨rfl, l', hW3, ?_, ?_, .inr ?_⟩
    · exact (HM3.out.farq (q := p) (by unfold Own; omega) _ _).farq (q := p) (by unfold Own; omega) _ _
    · exact (HK3.out.setCell (fun _ => .inl rfl) _).setCell (fun _ => .inl rfl) _
    · exact (HQ3.out.set 12 _).set 17 _

end Go.Proofs.Ytpamjbjgckaedaa
