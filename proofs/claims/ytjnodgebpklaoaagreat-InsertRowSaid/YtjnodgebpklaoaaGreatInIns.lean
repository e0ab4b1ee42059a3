/-
 Package insert: NewInsert. Condition: a layout within its limits.
-/
import Derived.Test.YtjnodgebpklaoaaGreatInNew
import Derived.Test.YtjnodgebpklaoaaGreatMgPlant
namespace Go.Proofs.YtjnodgebpklaoaaGreat
set_option maxHeartbeats 8000000
set_option maxRecDepth 100000
open Go.RowKit Go.Deep Plain
set_option linter.unusedVariables false

section
open Go.RowKit Go.Deep Plain
set_option linter.unusedVariables false

theorem newInsert_take (N : Int) (F : Nat) (fb fd : Int) (hl : Lim 1 2 N 100 200 (F : Int)) (hd : Reach3 10 fb fd) (id wd : Nat) (P : Pg) (A : Option Addr) (c : Nat) (key : ByteArray) (ref lim : Nat) (w : World) (h40 : P.xs.length ≤ 999) (hPl : P.lv < 9223372036854775808) (hwd : wd < 18446744073709551616) (hlim : N = (lim : Int)) (hR : Rs w A c P.xs) (ha : Asc P.xs) (hk : has key P.xs = false) (hfull : F < (npg P key ref).xs.length) :
  Calls Tryz.prog 18 #[.agg #[.int .i64 1, .int .i64 2, .int .i64 N, .int .i64 100, .int .i64 200, .int .i64 (F : Int), .int .u64 1000, .int .i64 10, .int .i64 fb, .int .i64 fd], .agg #[.int .u64 (id : Int), .int .u64 (wd : Int), .int .i64 (P.lv : Int), .slice A P.xs.length c, .string P.hi, .bool P.la, .int .u64 (P.rt : Int)], .string key, .int .u64 (ref : Int)] w fun e w' => ∃ (i q : Nat) (A1 : Option Addr) (c1 : Nat) (A2 : Option Addr) (c2 : Nat), e = .returned (.pointer (some ⟨i, 0, none⟩)) ∧ Blk w' i 104 (insv N F fb fd id wd P A1 c1 (npg P key ref) A2 c2 0 (.pointer (some ⟨q, 0, none⟩)) (.pointer none) (.pointer none) ⟨#[]⟩) ∧ Blk w' q 152 (macv 4 0 ⟨#[]⟩ 0 false lim false false) ∧ Rs w' A1 c1 P.xs ∧ Rs w' A2 c2 (npg P key ref).xs ∧ (w.heap.size ≤ i ∧ i < q ∧ (∀ a, A1 = some a → 0 < P.xs.length → w.heap.size ≤ a.block ∧ a.block ≠ i ∧ a.block ≠ q) ∧ (∀ a, A2 = some a → w.heap.size ≤ a.block ∧ a.block ≠ i ∧ a.block ≠ q)) ∧ Kept (fun _ => False) w w' := by
 have HA := Hd ha
 have HH := Hd hk
 have HLIM := Hd hlim
 have hbx := Blk.new w [.int .i64 1, .int .i64 2, .int .i64 N, .int .i64 100, .int .i64 200, .int .i64 (F : Int), .int .u64 1000, .int .i64 10, .int .i64 fb, .int .i64 fd] 28
 have z0 : (w.alloc (.cells #[.int .i64 1, .int .i64 2, .int .i64 N, .int .i64 100, .int .i64 200, .int .i64 (F : Int), .int .u64 1000, .int .i64 10, .int .i64 fb, .int .i64 fd] 28)).heap.size = w.heap.size + 1 := nblk_alloc _ _
 have hk0 := ((Kept.refl (fun _ => False) w).alloc (.cells #[.int .i64 1, .int .i64 2, .int .i64 N, .int .i64 100, .int .i64 200, .int .i64 (F : Int), .int .u64 1000, .int .i64 10, .int .i64 fb, .int .i64 fd] 28)).alloc (.cells #[.int .u64 (id : Int), .int .u64 (wd : Int), .int .i64 (P.lv : Int), .slice A P.xs.length c, .string P.hi, .bool P.la, .int .u64 (P.rt : Int)] 40)
 have H4 := Hd (hbx.alloc (.cells #[.int .u64 (id : Int), .int .u64 (wd : Int), .int .i64 (P.lv : Int), .slice A P.xs.length c, .string P.hi, .bool P.la, .int .u64 (P.rt : Int)] 40))
 have H5 := Hd (show Blk ((w.alloc (.cells #[.int .i64 1, .int .i64 2, .int .i64 N, .int .i64 100, .int .i64 200, .int .i64 (F : Int), .int .u64 1000, .int .i64 10, .int .i64 fb, .int .i64 fd] 28)).alloc (.cells #[.int .u64 (id : Int), .int .u64 (wd : Int), .int .i64 (P.lv : Int), .slice A P.xs.length c, .string P.hi, .bool P.la, .int .u64 (P.rt : Int)] 40)) (w.heap.size + 1) 40 [.int .u64 (id : Int), .int .u64 (wd : Int), .int .i64 (P.lv : Int), .slice A P.xs.length c, .string P.hi, .bool P.la, .int .u64 (P.rt : Int)] from by
  have h := Blk.new (w.alloc (.cells #[.int .i64 1, .int .i64 2, .int .i64 N, .int .i64 100, .int .i64 200, .int .i64 (F : Int), .int .u64 1000, .int .i64 10, .int .i64 fb, .int .i64 fd] 28)) [.int .u64 (id : Int), .int .u64 (wd : Int), .int .i64 (P.lv : Int), .slice A P.xs.length c, .string P.hi, .bool P.la, .int .u64 (P.rt : Int)] 40
  rw [z0] at h
  exact h)
 have HR := Hd (hR.keptF hk0 (fun _ _ h => h))
 have HK := Hd hk0
 clear ha hk hbx z0 hk0 hR hlim
 go_enter Tryz.func18, Tryz.ntmps18
 go_upto_region 1 with fail
 generalize hr4 : w.heap.size = r4 at *
 generalize (w.alloc (.cells #[.int .i64 1, .int .i64 2, .int .i64 N, .int .i64 100, .int .i64 200, .int .i64 (F : Int), .int .u64 1000, .int .i64 10, .int .i64 fb, .int .i64 fd] 28)).alloc (.cells #[.int .u64 (id : Int), .int .u64 (wd : Int), .int .i64 (P.lv : Int), .slice A P.xs.length c, .string P.hi, .bool P.la, .int .u64 (P.rt : Int)] 40) = V1 at *
 have HR4 := Hd hr4
 clear hr4
 have hb9 := H5.out
 obtain ⟨x0, x1, x2, x3, x4, x5, x6⟩ := hb9.c7
 clear hb9
 go_wp2_with fail
 refine (icopied_any id wd P A c _ (by omega) HR.out).mono ?_; rintro e V2 ⟨A1, c1, rfl, hR1, hA1, hK1⟩
 replace H4 := Hd (hK1.blk H4.out (fun h => h))
 have H5l := H5.out.lt
 have HA1 := Hd (show ∀ a, A1 = some a → r4 + 1 < a.block from fun a ha => by have := hA1 a ha; omega)
 replace H5 := Hd (hK1.blk H5.out (fun h => h))
 replace HK := Hd (HK.out.trans hK1 (fun _ _ h => h))
 have HR1 := Hd hR1
 clear hA1 hK1 hR1 x0 x1 x2 x3 x4 x5 x6 H5l HR
 have hb9 := H5.out
 have s0 := hb9.k 0 rfl; have z0 := hb9.frozen 0; have s1 := hb9.k 1 rfl; have z1 := hb9.frozen 1; have s2 := hb9.k 2 rfl; have z2 := hb9.frozen 2; have s3 := hb9.k 3 rfl; have z3 := hb9.frozen 3; have s4 := hb9.k 4 rfl; have z4 := hb9.frozen 4; have s5 := hb9.k 5 rfl; have z5 := hb9.frozen 5; have s6 := hb9.k 6 rfl; have z6 := hb9.frozen 6
 clear hb9
 go_upto_region 2 with fail
 have hks := (((((((Kept.refl (fun k => k = r4 + 1) V2).setCell (a := ⟨r4 + 1, 0, none⟩) (fun _ => rfl) (.int .u64 (id : Int))).setCell (a := ⟨r4 + 1, 1, none⟩) (fun _ => rfl) (.int .u64 (wd : Int))).setCell (a := ⟨r4 + 1, 2, none⟩) (fun _ => rfl) (.int .i64 (P.lv : Int))).setCell (a := ⟨r4 + 1, 3, none⟩) (fun _ => rfl) (.slice A1 P.xs.length c1)).setCell (a := ⟨r4 + 1, 4, none⟩) (fun _ => rfl) (.string P.hi)).setCell (a := ⟨r4 + 1, 5, none⟩) (fun _ => rfl) (.bool P.la)).setCell (a := ⟨r4 + 1, 6, none⟩) (fun _ => rfl) (.int .u64 (P.rt : Int))
 have hb5 := (((((((H5.out).set 0 (.int .u64 (id : Int))).set 1 (.int .u64 (wd : Int))).set 2 (.int .i64 (P.lv : Int))).set 3 (.slice A1 P.xs.length c1)).set 4 (.string P.hi)).set 5 (.bool P.la)).set 6 (.int .u64 (P.rt : Int))
 replace H4 := Hd (hks.blk H4.out (by omega))
 replace HR1 := Hd (HR1.out.keptF hks (fun a ha h => by have := HA1.out a ha; omega))
 replace HK := Hd (HK.out.trans hks (fun k hk h => by have := HR4.out; omega))
 clear hks s0 s1 s2 s3 s4 s5 s6 z0 z1 z2 z3 z4 z5 z6 H5
 generalize (((((((V2).setCell ⟨r4 + 1, 0, none⟩ (.int .u64 (id : Int))).setCell ⟨r4 + 1, 1, none⟩ (.int .u64 (wd : Int))).setCell ⟨r4 + 1, 2, none⟩ (.int .i64 (P.lv : Int))).setCell ⟨r4 + 1, 3, none⟩ (.slice A1 P.xs.length c1)).setCell ⟨r4 + 1, 4, none⟩ (.string P.hi)).setCell ⟨r4 + 1, 5, none⟩ (.bool P.la)).setCell ⟨r4 + 1, 6, none⟩ (.int .u64 (P.rt : Int)) = V3 at *
 have H5 := Hd (show Blk V3 (r4 + 1) 40 [.int .u64 (id : Int), .int .u64 (wd : Int), .int .i64 (P.lv : Int), .slice A1 P.xs.length c1, .string P.hi, .bool P.la, .int .u64 (P.rt : Int)] from hb5)
 clear hb5
 have hb9 := H4.out
 obtain ⟨x0, x1, x2, x3, x4, x5, x6, x7, x8, x9⟩ := hb9.c10
 clear hb9
 have hb9 := H5.out
 obtain ⟨y0, y1, y2, y3, y4, y5, y6⟩ := hb9.c7
 clear hb9
 go_upto_region 3 with fail
 have hal := (Kept.refl (fun _ => False) V3).alloc (.cells #[.int .i64 1, .int .i64 2, .int .i64 N, .int .i64 100, .int .i64 200, .int .i64 (F : Int), .int .u64 1000, .int .i64 10, .int .i64 fb, .int .i64 fd, .int .u64 (id : Int), .int .u64 (wd : Int), .int .i64 (P.lv : Int), .slice A1 P.xs.length c1, .string P.hi, .bool P.la, .int .u64 (P.rt : Int), .int .i64 (P.lv : Int), .slice A1 P.xs.length c1, .string P.hi, .bool P.la, .int .u64 (P.rt : Int), .int .i64 0, .pointer none, .pointer none, .pointer none, .string ⟨#[]⟩] 104)
 have HI := Hd (show Blk (V3.alloc (.cells #[.int .i64 1, .int .i64 2, .int .i64 N, .int .i64 100, .int .i64 200, .int .i64 (F : Int), .int .u64 1000, .int .i64 10, .int .i64 fb, .int .i64 fd, .int .u64 (id : Int), .int .u64 (wd : Int), .int .i64 (P.lv : Int), .slice A1 P.xs.length c1, .string P.hi, .bool P.la, .int .u64 (P.rt : Int), .int .i64 (P.lv : Int), .slice A1 P.xs.length c1, .string P.hi, .bool P.la, .int .u64 (P.rt : Int), .int .i64 0, .pointer none, .pointer none, .pointer none, .string ⟨#[]⟩] 104)) V3.heap.size 104 (insv N F fb fd id wd P A1 c1 P A1 c1 0 (.pointer none) (.pointer none) (.pointer none) ⟨#[]⟩) from Blk.new V3 [.int .i64 1, .int .i64 2, .int .i64 N, .int .i64 100, .int .i64 200, .int .i64 (F : Int), .int .u64 1000, .int .i64 10, .int .i64 fb, .int .i64 fd, .int .u64 (id : Int), .int .u64 (wd : Int), .int .i64 (P.lv : Int), .slice A1 P.xs.length c1, .string P.hi, .bool P.la, .int .u64 (P.rt : Int), .int .i64 (P.lv : Int), .slice A1 P.xs.length c1, .string P.hi, .bool P.la, .int .u64 (P.rt : Int), .int .i64 0, .pointer none, .pointer none, .pointer none, .string ⟨#[]⟩] 104)
 have HRI := Hd (show r4 + 1 < V3.heap.size from H5.out.lt)
 replace H4 := Hd (hal.blk H4.out (fun h => h))
 replace H5 := Hd (hal.blk H5.out (fun h => h))
 have HA1I := Hd (show ∀ a, A1 = some a → 0 < P.xs.length → a.block < V3.heap.size from fun a ha hp => by
  obtain ⟨g9, o9, e9, h9, -⟩ := HR1.out.at hp
  rw [e9] at ha; cases ha; exact h9)
 replace HR1 := Hd (HR1.out.keptF hal (fun _ _ h => h))
 replace HK := Hd (HK.out.trans hal (fun _ _ h => h))
 clear hal x0 x1 x2 x3 x4 x5 x6 x7 x8 x9 y0 y1 y2 y3 y4 y5 y6
 generalize V3.heap.size = i at *
 generalize V3.alloc (.cells #[.int .i64 1, .int .i64 2, .int .i64 N, .int .i64 100, .int .i64 200, .int .i64 (F : Int), .int .u64 1000, .int .i64 10, .int .i64 fb, .int .i64 fd, .int .u64 (id : Int), .int .u64 (wd : Int), .int .i64 (P.lv : Int), .slice A1 P.xs.length c1, .string P.hi, .bool P.la, .int .u64 (P.rt : Int), .int .i64 (P.lv : Int), .slice A1 P.xs.length c1, .string P.hi, .bool P.la, .int .u64 (P.rt : Int), .int .i64 0, .pointer none, .pointer none, .pointer none, .string ⟨#[]⟩] 104) = V4 at *
 have HIL := Hd HI.out.lt
 have hb9 := H5.out
 obtain ⟨y0, y1, y2, y3, y4, y5, y6⟩ := hb9.c7
 clear hb9
 go_wp2_with fail
 refine (pinsert_pg P A1 c1 key ref _ (by omega) HR1.out HA.out HH.out).mono ?_; rintro e V5 ⟨A2, c2, rfl, hR2, hA2, hK2⟩
 replace H4 := Hd (hK2.blk H4.out (fun h => h))
 replace HI := Hd (hK2.blk HI.out (fun h => h))
 replace HR1 := Hd (HR1.out.keptF hK2 (fun _ _ h => h))
 have HR2 := Hd hR2
 have HA2 := Hd (show ∀ a, A2 = some a → i < a.block from fun a ha => by have h1 := hA2 a ha; have h2 := HIL.out; omega)
 replace HK := Hd (HK.out.trans hK2 (fun _ _ h => h))
 clear hR2 hA2 hK2 y0 y1 y2 y3 y4 y5 y6 H5
 go_upto_region 5 with fail
 have hal := (Kept.refl (fun _ => False) V5).alloc (.cells #[.int .i64 ((npg P key ref).lv : Int), .slice A2 (npg P key ref).xs.length c2, .string (npg P key ref).hi, .bool (npg P key ref).la, .int .u64 ((npg P key ref).rt : Int)] 38)
 have H10 := Hd (Blk.new V5 [.int .i64 ((npg P key ref).lv : Int), .slice A2 (npg P key ref).xs.length c2, .string (npg P key ref).hi, .bool (npg P key ref).la, .int .u64 ((npg P key ref).rt : Int)] 38)
 replace H4 := Hd (hal.blk H4.out (fun h => h))
 replace HI := Hd (hal.blk HI.out (fun h => h))
 replace HR1 := Hd (HR1.out.keptF hal (fun _ _ h => h))
 replace HR2 := Hd (HR2.out.keptF hal (fun _ _ h => h))
 replace HK := Hd (HK.out.trans hal (fun _ _ h => h))
 clear hal
 generalize V5.heap.size = r10 at *
 generalize V5.alloc (.cells #[.int .i64 ((npg P key ref).lv : Int), .slice A2 (npg P key ref).xs.length c2, .string (npg P key ref).hi, .bool (npg P key ref).la, .int .u64 ((npg P key ref).rt : Int)] 38) = V6 at *
 have hb9 := H10.out
 obtain ⟨x0, x1, x2, x3, x4⟩ := hb9.c5
 clear hb9
 have hb9 := HI.out
 have s17 := hb9.k 17 rfl; have z17 := hb9.frozen 17; have s18 := hb9.k 18 rfl; have z18 := hb9.frozen 18; have s19 := hb9.k 19 rfl; have z19 := hb9.frozen 19; have s20 := hb9.k 20 rfl; have z20 := hb9.frozen 20; have s21 := hb9.k 21 rfl; have z21 := hb9.frozen 21
 clear hb9
 go_upto_region 6 with fail
 have hks := ((((((Kept.refl (fun k => k = i) V6)).setCell (a := ⟨i, 17, none⟩) (fun _ => rfl) (.int .i64 ((npg P key ref).lv : Int))).setCell (a := ⟨i, 18, none⟩) (fun _ => rfl) (.slice A2 (npg P key ref).xs.length c2)).setCell (a := ⟨i, 19, none⟩) (fun _ => rfl) (.string (npg P key ref).hi)).setCell (a := ⟨i, 20, none⟩) (fun _ => rfl) (.bool (npg P key ref).la)).setCell (a := ⟨i, 21, none⟩) (fun _ => rfl) (.int .u64 ((npg P key ref).rt : Int))
 have hi3 := (((((HI.out).set 17 (.int .i64 ((npg P key ref).lv : Int))).set 18 (.slice A2 (npg P key ref).xs.length c2)).set 19 (.string (npg P key ref).hi)).set 20 (.bool (npg P key ref).la)).set 21 (.int .u64 ((npg P key ref).rt : Int))
 replace H4 := Hd (hks.blk H4.out (fun h => by have := HRI.out; omega))
 replace HR1 := Hd (HR1.out.keptP hks (fun hp a ha h => by have h1 := HA1I.out a ha hp; have h3 : a.block = i := h; omega))
 replace HR2 := Hd (HR2.out.keptF hks (fun a ha h => by have h1 := HA2.out a ha; have h3 : a.block = i := h; omega))
 replace HK := Hd (HK.out.trans hks (fun k hk h => by have h1 := HRI.out; have h2 := HR4.out; have h3 : k = i := h; omega))
 clear hks s17 s18 s19 s20 s21 z17 z18 z19 z20 z21 x0 x1 x2 x3 x4 HI H10
 generalize (((((V6).setCell ⟨i, 17, none⟩ (.int .i64 ((npg P key ref).lv : Int))).setCell ⟨i, 18, none⟩ (.slice A2 (npg P key ref).xs.length c2)).setCell ⟨i, 19, none⟩ (.string (npg P key ref).hi)).setCell ⟨i, 20, none⟩ (.bool (npg P key ref).la)).setCell ⟨i, 21, none⟩ (.int .u64 ((npg P key ref).rt : Int)) = V7 at *
 have HI := Hd (show Blk V7 i 104 (insv N F fb fd id wd P A1 c1 (npg P key ref) A2 c2 0 (.pointer none) (.pointer none) (.pointer none) ⟨#[]⟩) from hi3)
 clear hi3
 obtain ⟨nx, hnx⟩ : ∃ nx, (npg P key ref).xs.length = nx := ⟨_, rfl⟩
 have HNX := Hd hnx
 clear hnx
 have d1 : (F : Int) < (nx : Int) := by have := HNX.out; omega
 have hcv : IntKind.u64.wrap N = (lim : Int) := by have := HLIM.out; have := hl.n1; have := hl.n2; rw [IntKind.wrap_u64]; omega
 refine wp_region_held_drew (S := (fun w' => Kept (fun _ => False) V7 w')) (by kernel_rfl) ?_ (fun hHeld => ?_)
 ·exact (Kept.refl _ _).drew
 have HW := Hd ((Kept.refl (fun _ => False) V7).drew)
 generalize V7.drew = G at *
 refine tkH 0 33 ?_ rfl ?_ hHeld ?_
 rotate_left
 ·(intro wq hSw; go_simp; try with_reducible rfl)
 try simp only [aP,aA,aZ,aS]
 refine tkH 1 34 ?_ rfl ?_ hHeld ?_
 rotate_left
 ·(intro wq hSw; go_simp; try with_reducible rfl)
 try simp only [aP,aA,aZ,aS]
 refine tkH 2 35 ?_ rfl ?_ hHeld ?_
 rotate_left
 ·(intro wq hSw; go_simp; try with_reducible rfl)
 try simp only [aP,aA,aZ,aS]
 refine tkH 3 36 ?_ rfl ?_ hHeld ?_
 rotate_left
 ·(intro wq hSw; go_simp; try with_reducible rfl)
 try simp only [aP,aA,aZ,aS]
 refine tkH 4 37 ?_ rfl ?_ hHeld ?_
 rotate_left
 ·(intro wq hSw; have hb9 := hSw.blk HI.out (fun h => h); have x18 := hb9.k 18 rfl; clear hb9; have hb9 := hSw.blk H4.out (fun h => h); obtain ⟨y0, y1, y2, y3, y4, y5, y6, y7, y8, y9⟩ := hb9.c10; clear hb9; go_simp; try with_reducible rfl)
 try simp only [aP,aA,aZ,aS]
 refine tkH 5 38 ?_ rfl ?_ hHeld ?_
 rotate_left
 ·(intro wq hSw; go_simp; try with_reducible rfl)
 try simp only [aP,aA,aZ,aS]
 refine tkH 6 39 ?_ rfl ?_ hHeld ?_
 rotate_left
 ·(intro wq hSw; have hb9 := hSw.blk HI.out (fun h => h); have x18 := hb9.k 18 rfl; clear hb9; have hb9 := hSw.blk H4.out (fun h => h); obtain ⟨y0, y1, y2, y3, y4, y5, y6, y7, y8, y9⟩ := hb9.c10; clear hb9; go_simp; try with_reducible rfl)
 try simp only [aP,aA,aZ,aS]
 refine wpAnyH_ready (rs := [7]) (by kernel_rfl) (by simp) ?_
 refine AllReadyH.cons (o := ⟨some 40, _, _, _, _, _⟩) rfl (fun KK hK => ?_) AllReadyH.nil
 go_simp
 go_at_call 59
 refine (config_any 1 2 N 100 200 (F : Int) 1000 10 fb fd _).mono ?_; rintro e G1 ⟨rfl, hK9⟩
 replace HW := Hd (HW.out.trans hK9 (fun _ _ h => h))
 clear hK9
 have hcf := cfield5 N F
 refine hK.out _ _ ?_ (fun hHeld2 => ?_)
 ·exact HW.out
 clear hK KK hHeld
 have hHeld := hHeld2
 clear hHeld2
 try simp only [aP,aA,aZ,aS]
 refine tkH 8 41 ?_ rfl ?_ hHeld ?_
 rotate_left
 ·(intro wq hSw; go_simp; try with_reducible rfl)
 try simp only [aP,aA,aZ,aS]
 refine tkH 9 42 ?_ rfl ?_ hHeld ?_
 rotate_left
 ·(intro wq hSw; go_simp; try with_reducible rfl)
 try simp only [aP,aA,aZ,aS]
 refine wpAnyH_done (by kernel_rfl) ?_ _
 clear hHeld
 have hkw := HW.out
 replace H4 := Hd (hkw.blk H4.out (fun h => h))
 replace HI := Hd (hkw.blk HI.out (fun h => h))
 replace HR1 := Hd (HR1.out.keptF hkw (fun _ _ h => h))
 replace HR2 := Hd (HR2.out.keptF hkw (fun _ _ h => h))
 replace HK := Hd (HK.out.trans hkw (fun _ _ h => h))
 clear hkw HW
 try clear hcf
 try clear hHeld
 rename World => V8
 go_upto_region 7 with fail
 refine wp_region_held_drew (S := (fun w' => Kept (fun k => k = i) V8 w')) (by kernel_rfl) ?_ (fun hHeld => ?_)
 ·exact (Kept.refl _ _).drew
 have HW := Hd ((Kept.refl (fun k => k = i) V8).drew)
 have hdr := (Kept.refl (fun _ => False) V8).drew
 replace HI := Hd (hdr.blk HI.out (fun h => h))
 replace HR1 := Hd (HR1.out.keptF hdr (fun _ _ h => h))
 replace HR2 := Hd (HR2.out.keptF hdr (fun _ _ h => h))
 clear hdr
 generalize V8.drew = G at *
 refine tkH 0 43 ?_ rfl ?_ hHeld ?_
 rotate_left
 ·(intro wq hSw; go_simp; try with_reducible rfl)
 try simp only [aP,aA,aZ,aS]
 refine tkH 1 44 ?_ rfl ?_ hHeld ?_
 rotate_left
 ·(intro wq hSw; have hb9 := hSw.blk H4.out (fun h => by have := HRI.out; have h2 : r4 = i := h; omega); obtain ⟨y0, y1, y2, y3, y4, y5, y6, y7, y8, y9⟩ := hb9.c10; clear hb9; go_simp; try with_reducible rfl)
 try simp only [aP,aA,aZ,aS]
 refine tkH 3 46 ?_ rfl ?_ hHeld ?_
 rotate_left
 ·(intro wq hSw; have hb9 := hSw.blk H4.out (fun h => by have := HRI.out; have h2 : r4 = i := h; omega); obtain ⟨y0, y1, y2, y3, y4, y5, y6, y7, y8, y9⟩ := hb9.c10; clear hb9; go_simp; try with_reducible rfl)
 try simp only [aP,aA,aZ,aS]
 refine wpAnyH_ready (rs := [2]) (by kernel_rfl) (by simp) ?_
 refine AllReadyH.cons (o := ⟨some 45, _, _, _, _, _⟩) rfl (fun KK hK => ?_) AllReadyH.nil
 go_simp
 go_at_call 61
 refine (nodes_any 1 2 N 100 200 (F : Int) 1000 10 fb fd _).mono ?_; rintro e G1 ⟨rfl, hK9⟩
 replace HW := Hd (HW.out.trans hK9 (fun _ _ h => h.elim))
 replace HI := Hd (hK9.blk HI.out (fun h => h))
 replace HR1 := Hd (HR1.out.keptF hK9 (fun _ _ h => h))
 replace HR2 := Hd (HR2.out.keptF hK9 (fun _ _ h => h))
 clear hK9
 refine hK.out _ _ ?_ (fun hHeld2 => ?_)
 ·exact HW.out
 clear hK KK hHeld
 have hHeld := hHeld2
 clear hHeld2
 try simp only [aP,aA,aZ,aS]
 refine wpAnyH_ready (rs := [4]) (by kernel_rfl) (by simp) ?_
 refine AllReadyH.cons (o := ⟨some 47, _, _, _, _, _⟩) rfl (fun KK hK => ?_) AllReadyH.nil
 go_simp
 go_at_call 59
 refine (config_any 1 2 N 100 200 (F : Int) 1000 10 fb fd _).mono ?_; rintro e G2 ⟨rfl, hK9⟩
 replace HW := Hd (HW.out.trans hK9 (fun _ _ h => h.elim))
 replace HI := Hd (hK9.blk HI.out (fun h => h))
 replace HR1 := Hd (HR1.out.keptF hK9 (fun _ _ h => h))
 replace HR2 := Hd (HR2.out.keptF hK9 (fun _ _ h => h))
 clear hK9
 have hcf := cfield2 N F
 refine hK.out _ _ ?_ (fun hHeld2 => ?_)
 ·exact HW.out
 clear hK KK hHeld
 have hHeld := hHeld2
 clear hHeld2
 try simp only [aP,aA,aZ,aS]
 refine tkH 5 48 ?_ rfl ?_ hHeld ?_
 rotate_left
 ·(intro wq hSw; go_simp; try with_reducible rfl)
 try simp only [aP,aA,aZ,aS]
 refine tkH 6 49 (.int .u64 (lim : Int)) rfl ?_ hHeld ?_
 ·(intro wq hSw; go_simp; try first | (with_reducible rfl) | (simp; omega) | (intros; omega) | simp [*])
 try simp only [aP,aA,aZ,aS]
 refine wpAnyH_ready (rs := [7]) (by kernel_rfl) (by simp) ?_
 refine AllReadyH.cons (o := ⟨some 50, _, _, _, _, _⟩) rfl (fun KK hK => ?_) AllReadyH.nil
 go_simp
 go_at_call 60
 refine (newTake_any 4 lim _).mono ?_; rintro e G3 ⟨rfl, rfl⟩
 have hal := (Kept.refl (fun _ => False) G2).alloc (.cells ⟨macv 4 0 ⟨#[]⟩ 0 false lim false false⟩ 152)
 have HQ := Hd (Blk.new G2 (macv 4 0 ⟨#[]⟩ 0 false lim false false) 152)
 have HQI := Hd (show i < G2.heap.size from HI.out.lt)
 have HQW := Hd (show ∀ a, A2 = some a → a.block < G2.heap.size from fun a ha => by
  obtain ⟨g9, o9, e9, h9, -⟩ := HR2.out.at (by rw [npg_length]; omega)
  rw [e9] at ha; cases ha; exact h9)
 have HQW1 := Hd (show ∀ a, A1 = some a → 0 < P.xs.length → a.block < G2.heap.size from fun a ha hp => by
  obtain ⟨g9, o9, e9, h9, -⟩ := HR1.out.at hp
  rw [e9] at ha; cases ha; exact h9)
 replace HW := Hd (HW.out.trans hal (fun _ _ h => h.elim))
 replace HI := Hd (hal.blk HI.out (fun h => h))
 replace HR1 := Hd (HR1.out.keptF hal (fun _ _ h => h))
 replace HR2 := Hd (HR2.out.keptF hal (fun _ _ h => h))
 clear hal
 generalize G2.heap.size = q at *
 generalize G2.alloc (.cells ⟨macv 4 0 ⟨#[]⟩ 0 false lim false false⟩ 152) = G at *
 refine hK.out _ _ ?_ (fun hHeld2 => ?_)
 ·exact HW.out
 clear hK KK hHeld
 have hHeld := hHeld2
 clear hHeld2
 try simp only [aP,aA,aZ,aS]
 refine tkH 8 51 ?_ rfl ?_ hHeld ?_
 rotate_left
 ·(intro wq hSw; go_simp; try with_reducible rfl)
 try simp only [aP,aA,aZ,aS]
 refine tkH 9 52 ?_ rfl ?_ hHeld ?_
 rotate_left
 ·(intro wq hSw; go_simp; try with_reducible rfl)
 try simp only [aP,aA,aZ,aS]
 refine wpAnyH_ready (rs := [10]) (by kernel_rfl) (by simp) ?_
 refine AllReadyH.cons (o := ⟨none, _, _, _, _, _⟩) rfl (fun KK hK => ?_) AllReadyH.nil
 have hs9 := HI.out
 have s9 := hs9.k 23 rfl
 have z9 := hs9.frozen 23
 clear hs9
 go_simp
 have hks := (Kept.refl (fun k => k = i) G).setCell (a := ⟨i, 23, none⟩) (fun _ => rfl) (.pointer (some ⟨q, 0, none⟩))
 replace HI := Hd (show Blk (G.setCell ⟨i, 23, none⟩ (.pointer (some ⟨q, 0, none⟩))) i 104 (insv N F fb fd id wd P A1 c1 (npg P key ref) A2 c2 0 (.pointer (some ⟨q, 0, none⟩)) (.pointer none) (.pointer none) ⟨#[]⟩) from HI.out.set 23 (.pointer (some ⟨q, 0, none⟩)))
 replace HQ := Hd (hks.blk HQ.out (fun h => by have := HQI.out; have h2 : q = i := h; omega))
 replace HR1 := Hd (HR1.out.keptP hks (fun hp a ha h => by have h1 := HA1I.out a ha hp; have h3 : a.block = i := h; omega))
 replace HR2 := Hd (HR2.out.keptF hks (fun a ha h => by have h1 := HA2.out a ha; have h3 : a.block = i := h; omega))
 replace HW := Hd (HW.out.trans hks (fun _ _ h => h))
 clear s9 z9 hks
 generalize G.setCell ⟨i, 23, none⟩ (.pointer (some ⟨q, 0, none⟩)) = G at *
 refine hK.out _ _ ?_ (fun hHeld2 => ?_)
 ·exact HW.out
 clear hK KK hHeld
 have hHeld := hHeld2
 clear hHeld2
 try simp only [aP,aA,aZ,aS]
 refine wpAnyH_done (by kernel_rfl) ?_ _
 clear hHeld
 have hkz := HK.out.trans HW.out (fun k hk h => by have h1 := HRI.out; have h2 := HR4.out; have h3 : k = i := h; omega)
 have HKz := Hd hkz
 have HGE := Hd (show w.heap.size ≤ i ∧ i < q ∧ (∀ a, A1 = some a → 0 < P.xs.length → w.heap.size ≤ a.block ∧ a.block ≠ i ∧ a.block ≠ q) ∧ (∀ a, A2 = some a → w.heap.size ≤ a.block ∧ a.block ≠ i ∧ a.block ≠ q) from by
  have h1 := HRI.out
  have h2 := HR4.out
  have h3 := HQI.out
  refine ⟨by omega, h3, fun a ha hp => ?_, fun a ha => ?_⟩
  ·have h4 := HA1I.out a ha hp
   have h5 := HQW1.out a ha hp
   have h6 := HA1.out a ha
   omega
  ·have h4 := HA2.out a ha
   have h5 := HQW.out a ha
   omega)
 clear hkz
 try clear hcf
 go_wp2
 go_ret
 exact ⟨i, q, A1, c1, A2, c2, rfl, HI.out, HQ.out, HR1.out, HR2.out, HGE.out, HKz.out⟩

theorem newInsert_write (N : Int) (F : Nat) (fb fd : Int) (hl : Lim 1 2 N 100 200 (F : Int)) (hd : Reach3 10 fb fd) (id wd : Nat) (P : Pg) (A : Option Addr) (c : Nat) (key : ByteArray) (ref lim : Nat) (w : World) (h40 : P.xs.length ≤ 999) (hPl : P.lv < 9223372036854775808) (hwd : wd < 18446744073709551616) (hlim : N = (lim : Int)) (hR : Rs w A c P.xs) (ha : Asc P.xs) (hk : has key P.xs = false) (hfit : (npg P key ref).xs.length ≤ F) :
  Calls Tryz.prog 18 #[.agg #[.int .i64 1, .int .i64 2, .int .i64 N, .int .i64 100, .int .i64 200, .int .i64 (F : Int), .int .u64 1000, .int .i64 10, .int .i64 fb, .int .i64 fd], .agg #[.int .u64 (id : Int), .int .u64 (wd : Int), .int .i64 (P.lv : Int), .slice A P.xs.length c, .string P.hi, .bool P.la, .int .u64 (P.rt : Int)], .string key, .int .u64 (ref : Int)] w fun e w' => ∃ (i q : Nat) (Zw : Nat → Prop) (A1 : Option Addr) (c1 : Nat) (A2 : Option Addr) (c2 : Nat), e = .returned (.pointer (some ⟨i, 0, none⟩)) ∧ Blk w' i 104 (insv N F fb fd id wd P A1 c1 (npg P key ref) A2 c2 2 (.pointer none) (.pointer none) (.pointer (some ⟨q, 0, none⟩)) ⟨#[]⟩) ∧ Stm Zw w' q 166 (wsto (nodeAt N (F : Int) 10 (id : Int) 0) (beginW wd) (endW (beginW wd)) (chg (pst (adr N F 10 id) P) (pst (adr N F 10 id) (npg P key ref)))) 0 id (endW (beginW wd)) (npg P key ref) ∧ (w.heap.size ≤ i ∧ (∀ k, Zw k → w.heap.size ≤ k ∧ k ≠ i)) ∧ Kept (fun _ => False) w w' := by
 have HA := Hd ha
 have HH := Hd hk
 have HLIM := Hd hlim
 have hbx := Blk.new w [.int .i64 1, .int .i64 2, .int .i64 N, .int .i64 100, .int .i64 200, .int .i64 (F : Int), .int .u64 1000, .int .i64 10, .int .i64 fb, .int .i64 fd] 28
 have z0 : (w.alloc (.cells #[.int .i64 1, .int .i64 2, .int .i64 N, .int .i64 100, .int .i64 200, .int .i64 (F : Int), .int .u64 1000, .int .i64 10, .int .i64 fb, .int .i64 fd] 28)).heap.size = w.heap.size + 1 := nblk_alloc _ _
 have hk0 := ((Kept.refl (fun _ => False) w).alloc (.cells #[.int .i64 1, .int .i64 2, .int .i64 N, .int .i64 100, .int .i64 200, .int .i64 (F : Int), .int .u64 1000, .int .i64 10, .int .i64 fb, .int .i64 fd] 28)).alloc (.cells #[.int .u64 (id : Int), .int .u64 (wd : Int), .int .i64 (P.lv : Int), .slice A P.xs.length c, .string P.hi, .bool P.la, .int .u64 (P.rt : Int)] 40)
 have H4 := Hd (hbx.alloc (.cells #[.int .u64 (id : Int), .int .u64 (wd : Int), .int .i64 (P.lv : Int), .slice A P.xs.length c, .string P.hi, .bool P.la, .int .u64 (P.rt : Int)] 40))
 have H5 := Hd (show Blk ((w.alloc (.cells #[.int .i64 1, .int .i64 2, .int .i64 N, .int .i64 100, .int .i64 200, .int .i64 (F : Int), .int .u64 1000, .int .i64 10, .int .i64 fb, .int .i64 fd] 28)).alloc (.cells #[.int .u64 (id : Int), .int .u64 (wd : Int), .int .i64 (P.lv : Int), .slice A P.xs.length c, .string P.hi, .bool P.la, .int .u64 (P.rt : Int)] 40)) (w.heap.size + 1) 40 [.int .u64 (id : Int), .int .u64 (wd : Int), .int .i64 (P.lv : Int), .slice A P.xs.length c, .string P.hi, .bool P.la, .int .u64 (P.rt : Int)] from by
  have h := Blk.new (w.alloc (.cells #[.int .i64 1, .int .i64 2, .int .i64 N, .int .i64 100, .int .i64 200, .int .i64 (F : Int), .int .u64 1000, .int .i64 10, .int .i64 fb, .int .i64 fd] 28)) [.int .u64 (id : Int), .int .u64 (wd : Int), .int .i64 (P.lv : Int), .slice A P.xs.length c, .string P.hi, .bool P.la, .int .u64 (P.rt : Int)] 40
  rw [z0] at h
  exact h)
 have HR := Hd (hR.keptF hk0 (fun _ _ h => h))
 have HK := Hd hk0
 clear ha hk hbx z0 hk0 hR hlim
 go_enter Tryz.func18, Tryz.ntmps18
 go_upto_region 1 with fail
 generalize hr4 : w.heap.size = r4 at *
 generalize (w.alloc (.cells #[.int .i64 1, .int .i64 2, .int .i64 N, .int .i64 100, .int .i64 200, .int .i64 (F : Int), .int .u64 1000, .int .i64 10, .int .i64 fb, .int .i64 fd] 28)).alloc (.cells #[.int .u64 (id : Int), .int .u64 (wd : Int), .int .i64 (P.lv : Int), .slice A P.xs.length c, .string P.hi, .bool P.la, .int .u64 (P.rt : Int)] 40) = V1 at *
 have HR4 := Hd hr4
 clear hr4
 have hb9 := H5.out
 obtain ⟨x0, x1, x2, x3, x4, x5, x6⟩ := hb9.c7
 clear hb9
 go_wp2_with fail
 refine (icopied_any id wd P A c _ (by omega) HR.out).mono ?_; rintro e V2 ⟨A1, c1, rfl, hR1, hA1, hK1⟩
 replace H4 := Hd (hK1.blk H4.out (fun h => h))
 have H5l := H5.out.lt
 have HA1 := Hd (show ∀ a, A1 = some a → r4 + 1 < a.block from fun a ha => by have := hA1 a ha; omega)
 replace H5 := Hd (hK1.blk H5.out (fun h => h))
 replace HK := Hd (HK.out.trans hK1 (fun _ _ h => h))
 have HR1 := Hd hR1
 clear hA1 hK1 hR1 x0 x1 x2 x3 x4 x5 x6 H5l HR
 have hb9 := H5.out
 have s0 := hb9.k 0 rfl; have z0 := hb9.frozen 0; have s1 := hb9.k 1 rfl; have z1 := hb9.frozen 1; have s2 := hb9.k 2 rfl; have z2 := hb9.frozen 2; have s3 := hb9.k 3 rfl; have z3 := hb9.frozen 3; have s4 := hb9.k 4 rfl; have z4 := hb9.frozen 4; have s5 := hb9.k 5 rfl; have z5 := hb9.frozen 5; have s6 := hb9.k 6 rfl; have z6 := hb9.frozen 6
 clear hb9
 go_upto_region 2 with fail
 have hks := (((((((Kept.refl (fun k => k = r4 + 1) V2).setCell (a := ⟨r4 + 1, 0, none⟩) (fun _ => rfl) (.int .u64 (id : Int))).setCell (a := ⟨r4 + 1, 1, none⟩) (fun _ => rfl) (.int .u64 (wd : Int))).setCell (a := ⟨r4 + 1, 2, none⟩) (fun _ => rfl) (.int .i64 (P.lv : Int))).setCell (a := ⟨r4 + 1, 3, none⟩) (fun _ => rfl) (.slice A1 P.xs.length c1)).setCell (a := ⟨r4 + 1, 4, none⟩) (fun _ => rfl) (.string P.hi)).setCell (a := ⟨r4 + 1, 5, none⟩) (fun _ => rfl) (.bool P.la)).setCell (a := ⟨r4 + 1, 6, none⟩) (fun _ => rfl) (.int .u64 (P.rt : Int))
 have hb5 := (((((((H5.out).set 0 (.int .u64 (id : Int))).set 1 (.int .u64 (wd : Int))).set 2 (.int .i64 (P.lv : Int))).set 3 (.slice A1 P.xs.length c1)).set 4 (.string P.hi)).set 5 (.bool P.la)).set 6 (.int .u64 (P.rt : Int))
 replace H4 := Hd (hks.blk H4.out (by omega))
 replace HR1 := Hd (HR1.out.keptF hks (fun a ha h => by have := HA1.out a ha; omega))
 replace HK := Hd (HK.out.trans hks (fun k hk h => by have := HR4.out; omega))
 clear hks s0 s1 s2 s3 s4 s5 s6 z0 z1 z2 z3 z4 z5 z6 H5
 generalize (((((((V2).setCell ⟨r4 + 1, 0, none⟩ (.int .u64 (id : Int))).setCell ⟨r4 + 1, 1, none⟩ (.int .u64 (wd : Int))).setCell ⟨r4 + 1, 2, none⟩ (.int .i64 (P.lv : Int))).setCell ⟨r4 + 1, 3, none⟩ (.slice A1 P.xs.length c1)).setCell ⟨r4 + 1, 4, none⟩ (.string P.hi)).setCell ⟨r4 + 1, 5, none⟩ (.bool P.la)).setCell ⟨r4 + 1, 6, none⟩ (.int .u64 (P.rt : Int)) = V3 at *
 have H5 := Hd (show Blk V3 (r4 + 1) 40 [.int .u64 (id : Int), .int .u64 (wd : Int), .int .i64 (P.lv : Int), .slice A1 P.xs.length c1, .string P.hi, .bool P.la, .int .u64 (P.rt : Int)] from hb5)
 clear hb5
 have hb9 := H4.out
 obtain ⟨x0, x1, x2, x3, x4, x5, x6, x7, x8, x9⟩ := hb9.c10
 clear hb9
 have hb9 := H5.out
 obtain ⟨y0, y1, y2, y3, y4, y5, y6⟩ := hb9.c7
 clear hb9
 go_upto_region 3 with fail
 have hal := (Kept.refl (fun _ => False) V3).alloc (.cells #[.int .i64 1, .int .i64 2, .int .i64 N, .int .i64 100, .int .i64 200, .int .i64 (F : Int), .int .u64 1000, .int .i64 10, .int .i64 fb, .int .i64 fd, .int .u64 (id : Int), .int .u64 (wd : Int), .int .i64 (P.lv : Int), .slice A1 P.xs.length c1, .string P.hi, .bool P.la, .int .u64 (P.rt : Int), .int .i64 (P.lv : Int), .slice A1 P.xs.length c1, .string P.hi, .bool P.la, .int .u64 (P.rt : Int), .int .i64 0, .pointer none, .pointer none, .pointer none, .string ⟨#[]⟩] 104)
 have HI := Hd (show Blk (V3.alloc (.cells #[.int .i64 1, .int .i64 2, .int .i64 N, .int .i64 100, .int .i64 200, .int .i64 (F : Int), .int .u64 1000, .int .i64 10, .int .i64 fb, .int .i64 fd, .int .u64 (id : Int), .int .u64 (wd : Int), .int .i64 (P.lv : Int), .slice A1 P.xs.length c1, .string P.hi, .bool P.la, .int .u64 (P.rt : Int), .int .i64 (P.lv : Int), .slice A1 P.xs.length c1, .string P.hi, .bool P.la, .int .u64 (P.rt : Int), .int .i64 0, .pointer none, .pointer none, .pointer none, .string ⟨#[]⟩] 104)) V3.heap.size 104 (insv N F fb fd id wd P A1 c1 P A1 c1 0 (.pointer none) (.pointer none) (.pointer none) ⟨#[]⟩) from Blk.new V3 [.int .i64 1, .int .i64 2, .int .i64 N, .int .i64 100, .int .i64 200, .int .i64 (F : Int), .int .u64 1000, .int .i64 10, .int .i64 fb, .int .i64 fd, .int .u64 (id : Int), .int .u64 (wd : Int), .int .i64 (P.lv : Int), .slice A1 P.xs.length c1, .string P.hi, .bool P.la, .int .u64 (P.rt : Int), .int .i64 (P.lv : Int), .slice A1 P.xs.length c1, .string P.hi, .bool P.la, .int .u64 (P.rt : Int), .int .i64 0, .pointer none, .pointer none, .pointer none, .string ⟨#[]⟩] 104)
 have HRI := Hd (show r4 + 1 < V3.heap.size from H5.out.lt)
 replace H4 := Hd (hal.blk H4.out (fun h => h))
 replace H5 := Hd (hal.blk H5.out (fun h => h))
 have HA1I := Hd (show ∀ a, A1 = some a → 0 < P.xs.length → a.block < V3.heap.size from fun a ha hp => by
  obtain ⟨g9, o9, e9, h9, -⟩ := HR1.out.at hp
  rw [e9] at ha; cases ha; exact h9)
 replace HR1 := Hd (HR1.out.keptF hal (fun _ _ h => h))
 replace HK := Hd (HK.out.trans hal (fun _ _ h => h))
 clear hal x0 x1 x2 x3 x4 x5 x6 x7 x8 x9 y0 y1 y2 y3 y4 y5 y6
 generalize V3.heap.size = i at *
 generalize V3.alloc (.cells #[.int .i64 1, .int .i64 2, .int .i64 N, .int .i64 100, .int .i64 200, .int .i64 (F : Int), .int .u64 1000, .int .i64 10, .int .i64 fb, .int .i64 fd, .int .u64 (id : Int), .int .u64 (wd : Int), .int .i64 (P.lv : Int), .slice A1 P.xs.length c1, .string P.hi, .bool P.la, .int .u64 (P.rt : Int), .int .i64 (P.lv : Int), .slice A1 P.xs.length c1, .string P.hi, .bool P.la, .int .u64 (P.rt : Int), .int .i64 0, .pointer none, .pointer none, .pointer none, .string ⟨#[]⟩] 104) = V4 at *
 have HIL := Hd HI.out.lt
 have hb9 := H5.out
 obtain ⟨y0, y1, y2, y3, y4, y5, y6⟩ := hb9.c7
 clear hb9
 go_wp2_with fail
 refine (pinsert_pg P A1 c1 key ref _ (by omega) HR1.out HA.out HH.out).mono ?_; rintro e V5 ⟨A2, c2, rfl, hR2, hA2, hK2⟩
 replace H4 := Hd (hK2.blk H4.out (fun h => h))
 replace HI := Hd (hK2.blk HI.out (fun h => h))
 replace HR1 := Hd (HR1.out.keptF hK2 (fun _ _ h => h))
 have HR2 := Hd hR2
 have HA2 := Hd (show ∀ a, A2 = some a → i < a.block from fun a ha => by have h1 := hA2 a ha; have h2 := HIL.out; omega)
 replace HK := Hd (HK.out.trans hK2 (fun _ _ h => h))
 clear hR2 hA2 hK2 y0 y1 y2 y3 y4 y5 y6 H5
 go_upto_region 5 with fail
 have hal := (Kept.refl (fun _ => False) V5).alloc (.cells #[.int .i64 ((npg P key ref).lv : Int), .slice A2 (npg P key ref).xs.length c2, .string (npg P key ref).hi, .bool (npg P key ref).la, .int .u64 ((npg P key ref).rt : Int)] 38)
 have H10 := Hd (Blk.new V5 [.int .i64 ((npg P key ref).lv : Int), .slice A2 (npg P key ref).xs.length c2, .string (npg P key ref).hi, .bool (npg P key ref).la, .int .u64 ((npg P key ref).rt : Int)] 38)
 replace H4 := Hd (hal.blk H4.out (fun h => h))
 replace HI := Hd (hal.blk HI.out (fun h => h))
 replace HR1 := Hd (HR1.out.keptF hal (fun _ _ h => h))
 replace HR2 := Hd (HR2.out.keptF hal (fun _ _ h => h))
 replace HK := Hd (HK.out.trans hal (fun _ _ h => h))
 clear hal
 generalize V5.heap.size = r10 at *
 generalize V5.alloc (.cells #[.int .i64 ((npg P key ref).lv : Int), .slice A2 (npg P key ref).xs.length c2, .string (npg P key ref).hi, .bool (npg P key ref).la, .int .u64 ((npg P key ref).rt : Int)] 38) = V6 at *
 have hb9 := H10.out
 obtain ⟨x0, x1, x2, x3, x4⟩ := hb9.c5
 clear hb9
 have hb9 := HI.out
 have s17 := hb9.k 17 rfl; have z17 := hb9.frozen 17; have s18 := hb9.k 18 rfl; have z18 := hb9.frozen 18; have s19 := hb9.k 19 rfl; have z19 := hb9.frozen 19; have s20 := hb9.k 20 rfl; have z20 := hb9.frozen 20; have s21 := hb9.k 21 rfl; have z21 := hb9.frozen 21
 clear hb9
 go_upto_region 6 with fail
 have hks := ((((((Kept.refl (fun k => k = i) V6)).setCell (a := ⟨i, 17, none⟩) (fun _ => rfl) (.int .i64 ((npg P key ref).lv : Int))).setCell (a := ⟨i, 18, none⟩) (fun _ => rfl) (.slice A2 (npg P key ref).xs.length c2)).setCell (a := ⟨i, 19, none⟩) (fun _ => rfl) (.string (npg P key ref).hi)).setCell (a := ⟨i, 20, none⟩) (fun _ => rfl) (.bool (npg P key ref).la)).setCell (a := ⟨i, 21, none⟩) (fun _ => rfl) (.int .u64 ((npg P key ref).rt : Int))
 have hi3 := (((((HI.out).set 17 (.int .i64 ((npg P key ref).lv : Int))).set 18 (.slice A2 (npg P key ref).xs.length c2)).set 19 (.string (npg P key ref).hi)).set 20 (.bool (npg P key ref).la)).set 21 (.int .u64 ((npg P key ref).rt : Int))
 replace H4 := Hd (hks.blk H4.out (fun h => by have := HRI.out; omega))
 replace HR1 := Hd (HR1.out.keptP hks (fun hp a ha h => by have h1 := HA1I.out a ha hp; have h3 : a.block = i := h; omega))
 replace HR2 := Hd (HR2.out.keptF hks (fun a ha h => by have h1 := HA2.out a ha; have h3 : a.block = i := h; omega))
 replace HK := Hd (HK.out.trans hks (fun k hk h => by have h1 := HRI.out; have h2 := HR4.out; have h3 : k = i := h; omega))
 clear hks s17 s18 s19 s20 s21 z17 z18 z19 z20 z21 x0 x1 x2 x3 x4 HI H10
 generalize (((((V6).setCell ⟨i, 17, none⟩ (.int .i64 ((npg P key ref).lv : Int))).setCell ⟨i, 18, none⟩ (.slice A2 (npg P key ref).xs.length c2)).setCell ⟨i, 19, none⟩ (.string (npg P key ref).hi)).setCell ⟨i, 20, none⟩ (.bool (npg P key ref).la)).setCell ⟨i, 21, none⟩ (.int .u64 ((npg P key ref).rt : Int)) = V7 at *
 have HI := Hd (show Blk V7 i 104 (insv N F fb fd id wd P A1 c1 (npg P key ref) A2 c2 0 (.pointer none) (.pointer none) (.pointer none) ⟨#[]⟩) from hi3)
 clear hi3
 obtain ⟨nx, hnx⟩ : ∃ nx, (npg P key ref).xs.length = nx := ⟨_, rfl⟩
 have HNX := Hd hnx
 clear hnx
 have d1 : ¬ (F : Int) < (nx : Int) := by have := HNX.out; omega
 refine wp_region_held_drew (S := (fun w' => Kept (fun _ => False) V7 w')) (by kernel_rfl) ?_ (fun hHeld => ?_)
 ·exact (Kept.refl _ _).drew
 have HW := Hd ((Kept.refl (fun _ => False) V7).drew)
 generalize V7.drew = G at *
 refine tkH 0 33 ?_ rfl ?_ hHeld ?_
 rotate_left
 ·(intro wq hSw; go_simp; try with_reducible rfl)
 try simp only [aP,aA,aZ,aS]
 refine tkH 1 34 ?_ rfl ?_ hHeld ?_
 rotate_left
 ·(intro wq hSw; go_simp; try with_reducible rfl)
 try simp only [aP,aA,aZ,aS]
 refine tkH 2 35 ?_ rfl ?_ hHeld ?_
 rotate_left
 ·(intro wq hSw; go_simp; try with_reducible rfl)
 try simp only [aP,aA,aZ,aS]
 refine tkH 3 36 ?_ rfl ?_ hHeld ?_
 rotate_left
 ·(intro wq hSw; go_simp; try with_reducible rfl)
 try simp only [aP,aA,aZ,aS]
 refine tkH 4 37 ?_ rfl ?_ hHeld ?_
 rotate_left
 ·(intro wq hSw; have hb9 := hSw.blk HI.out (fun h => h); have x18 := hb9.k 18 rfl; clear hb9; have hb9 := hSw.blk H4.out (fun h => h); obtain ⟨y0, y1, y2, y3, y4, y5, y6, y7, y8, y9⟩ := hb9.c10; clear hb9; go_simp; try with_reducible rfl)
 try simp only [aP,aA,aZ,aS]
 refine tkH 5 38 ?_ rfl ?_ hHeld ?_
 rotate_left
 ·(intro wq hSw; go_simp; try with_reducible rfl)
 try simp only [aP,aA,aZ,aS]
 refine tkH 6 39 ?_ rfl ?_ hHeld ?_
 rotate_left
 ·(intro wq hSw; have hb9 := hSw.blk HI.out (fun h => h); have x18 := hb9.k 18 rfl; clear hb9; have hb9 := hSw.blk H4.out (fun h => h); obtain ⟨y0, y1, y2, y3, y4, y5, y6, y7, y8, y9⟩ := hb9.c10; clear hb9; go_simp; try with_reducible rfl)
 try simp only [aP,aA,aZ,aS]
 refine wpAnyH_ready (rs := [7]) (by kernel_rfl) (by simp) ?_
 refine AllReadyH.cons (o := ⟨some 40, _, _, _, _, _⟩) rfl (fun KK hK => ?_) AllReadyH.nil
 go_simp
 go_at_call 59
 refine (config_any 1 2 N 100 200 (F : Int) 1000 10 fb fd _).mono ?_; rintro e G1 ⟨rfl, hK9⟩
 replace HW := Hd (HW.out.trans hK9 (fun _ _ h => h))
 clear hK9
 have hcf := cfield5 N F
 refine hK.out _ _ ?_ (fun hHeld2 => ?_)
 ·exact HW.out
 clear hK KK hHeld
 have hHeld := hHeld2
 clear hHeld2
 try simp only [aP,aA,aZ,aS]
 refine tkH 8 41 ?_ rfl ?_ hHeld ?_
 rotate_left
 ·(intro wq hSw; go_simp; try with_reducible rfl)
 try simp only [aP,aA,aZ,aS]
 refine tkH 9 42 ?_ rfl ?_ hHeld ?_
 rotate_left
 ·(intro wq hSw; go_simp; try with_reducible rfl)
 try simp only [aP,aA,aZ,aS]
 refine wpAnyH_done (by kernel_rfl) ?_ _
 clear hHeld
 have hkw := HW.out
 replace H4 := Hd (hkw.blk H4.out (fun h => h))
 replace HI := Hd (hkw.blk HI.out (fun h => h))
 replace HR1 := Hd (HR1.out.keptF hkw (fun _ _ h => h))
 replace HR2 := Hd (HR2.out.keptF hkw (fun _ _ h => h))
 replace HK := Hd (HK.out.trans hkw (fun _ _ h => h))
 clear hkw HW
 try clear hcf
 try clear hHeld
 rename World => V8
 go_wp2_with fail
 refine (ichange_any N F fb fd hl hd i id wd P (npg P key ref) A1 c1 A2 c2 0 (.pointer none) (.pointer none) (.pointer none) ⟨#[]⟩ _ HI.out (by omega) (by rw [npg_length]; omega) hPl hPl hwd HR1.out HR2.out).mono ?_
 rintro e V9 ⟨rfl, q, Zw, hI, hS, hZ, hK⟩
 have HI9 := Hd hI
 have HS9 := Hd hS
 have HKz := Hd (HK.out.trans hK (fun k hk h => by have h1 := HRI.out; have h2 := HR4.out; have h3 : k = i := h; omega))
 have HGE := Hd (show w.heap.size ≤ i ∧ (∀ k, Zw k → w.heap.size ≤ k ∧ k ≠ i) from by
  have h1 := HRI.out
  have h2 := HR4.out
  have h8 := HI.out.lt
  exact ⟨by omega, fun k hk => by have := hZ k hk; omega⟩)
 clear hI hS hK hZ
 go_wp2
 go_ret
 exact ⟨i, q, Zw, A1, c1, A2, c2, rfl, HI9.out, HS9.out, HGE.out, HKz.out⟩

end
end Go.Proofs.YtjnodgebpklaoaaGreat
