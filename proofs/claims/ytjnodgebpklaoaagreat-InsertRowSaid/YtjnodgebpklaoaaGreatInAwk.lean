/-
 The sanity check of layer 13's laws. Condition: none.
-/
import Derived.Test.YtjnodgebpklaoaaGreatMgRes
import Derived.Test.YtjnodgebpklaoaaGreatMgPlant
import Derived.Deep.CutBlock
namespace Go.Proofs.YtjnodgebpklaoaaGreat
set_option maxHeartbeats 8000000
set_option maxRecDepth 100000
open Go.RowKit Go.Deep Plain
set_option linter.unusedVariables false

theorem awk_asc : Asc ([(⟨#[97]⟩, 1), (⟨#[98]⟩, 2), (⟨#[99]⟩, 3), (⟨#[100]⟩, 4)] : List Sl) := by
 simp [Asc, lt, Lib.toList_data, ltB]
theorem awk_has : has ⟨#[101]⟩ ([(⟨#[97]⟩, 1), (⟨#[98]⟩, 2), (⟨#[99]⟩, 3), (⟨#[100]⟩, 4)] : List Sl) = false := by
 simp [has, eqk, Lib.toList_data]
theorem awake13_any (w : World) :
  Calls Tryz.prog 10 #[] w fun e w' => e = .returned (.bool true) ∧ Kept (fun _ => False) w w' := by
 go_enter Tryz.func10, Tryz.ntmps10
 go_wp2_with fail
 refine (kitConfig_any 1 0 4 (by decide) _).mono ?_; rintro e w1 ⟨rfl, hK1⟩
 have HK := Hd hK1
 have HK0 := Hd hK1.size
 clear hK1
 go_upto_region 2 with fail
 have hal := (Kept.refl (fun _ => False) w1).alloc (.cells #[.int .i64 1, .int .i64 2, .int .i64 100, .int .i64 100, .int .i64 200, .int .i64 4, .int .u64 1000] 25)
 have H1 := Hd (Blk.new w1 [.int .i64 1, .int .i64 2, .int .i64 100, .int .i64 100, .int .i64 200, .int .i64 4, .int .u64 1000] 25)
 replace HK := Hd (HK.out.trans hal (fun _ _ h => h))
 clear hal
 generalize hr1 : w1.heap.size = r1 at *
 generalize w1.alloc (.cells #[.int .i64 1, .int .i64 2, .int .i64 100, .int .i64 100, .int .i64 200, .int .i64 4, .int .u64 1000] 25) = W1 at *
 have HR1 := Hd (show w.heap.size ≤ r1 ∧ r1 < W1.heap.size from ⟨HK0.out, H1.out.lt⟩)
 clear hr1
 have hx := H1.out
 obtain ⟨x0, x1, x2, x3, x4, x5, x6⟩ := hx.c7
 clear hx
 go_wp2_with fail
 refine (kitMem3 4 (by omega) (by omega) _).mono ?_
 rintro e w2 ⟨b, g, l, fb, fd, rfl, hM2, hS2, hr2, hd, hb2, hg2, hK2⟩
 have HM := Hd hM2
 have HS := Hd hS2
 have HRT := Hd hr2
 have HD := Hd hd
 have HBG := Hd (show r1 < b ∧ r1 < g ∧ w.heap.size ≤ b ∧ w.heap.size ≤ g ∧ b < w2.heap.size ∧ g < w2.heap.size by have h1 := HR1.out; have h2 := hM2.obj.lt; have h3 := hM2.row.lt; omega)
 replace HK := Hd (HK.out.trans hK2 (fun _ _ h => h.elim))
 replace H1 := Hd (hK2.blk H1.out (fun h => h))
 clear hM2 hS2 hr2 hd hb2 hg2 hK2 x0 x1 x2 x3 x4 x5 x6
 go_upto_region 3 with fail
 have hal := (Kept.refl (fun _ => False) w2).alloc (.cells #[.int .i64 1, .int .i64 2, .int .i64 100, .int .i64 100, .int .i64 200, .int .i64 4, .int .u64 1000, .int .i64 10, .int .i64 fb, .int .i64 fd] 28)
 have H2 := Hd (Blk.new w2 [.int .i64 1, .int .i64 2, .int .i64 100, .int .i64 100, .int .i64 200, .int .i64 4, .int .u64 1000, .int .i64 10, .int .i64 fb, .int .i64 fd] 28)
 replace HK := Hd (HK.out.trans hal (fun _ _ h => h.elim))
 replace H1 := Hd (hal.blk H1.out (fun h => h))
 replace HM := Hd (HM.out.kept hal (fun h => h) (fun h => h))
 clear hal
 generalize hr2 : w2.heap.size = r2 at *
 generalize w2.alloc (.cells #[.int .i64 1, .int .i64 2, .int .i64 100, .int .i64 100, .int .i64 200, .int .i64 4, .int .u64 1000, .int .i64 10, .int .i64 fb, .int .i64 fd] 28) = W2 at *
 have HR2 := Hd (show b < r2 ∧ g < r2 ∧ r2 < W2.heap.size from ⟨HBG.out.2.2.2.2.1, HBG.out.2.2.2.2.2, H2.out.lt⟩)
 clear hr2
 go_upto_region 6 with fail
 have hal := ((Kept.refl (fun _ => False) W2).alloc (.cells #[.string ⟨#[97]⟩, .int .u64 1, .string ⟨#[98]⟩, .int .u64 2, .string ⟨#[99]⟩, .int .u64 3, .string ⟨#[100]⟩, .int .u64 4] 60)).alloc (.cells #[.int .i64 0, .slice (some ⟨W2.heap.size, 0, none⟩) 4 4, .string ⟨#[]⟩, .bool true, .int .u64 0] 38)
 have hz := nblk_alloc W2 (.cells #[.string ⟨#[97]⟩, .int .u64 1, .string ⟨#[98]⟩, .int .u64 2, .string ⟨#[99]⟩, .int .u64 3, .string ⟨#[100]⟩, .int .u64 4] 60)
 have HRW := Hd (show Rs ((W2.alloc (.cells #[.string ⟨#[97]⟩, .int .u64 1, .string ⟨#[98]⟩, .int .u64 2, .string ⟨#[99]⟩, .int .u64 3, .string ⟨#[100]⟩, .int .u64 4] 60)).alloc (.cells #[.int .i64 0, .slice (some ⟨W2.heap.size, 0, none⟩) 4 4, .string ⟨#[]⟩, .bool true, .int .u64 0] 38)) (some ⟨W2.heap.size, 0, none⟩) 4 [(⟨#[97]⟩, 1), (⟨#[98]⟩, 2), (⟨#[99]⟩, 3), (⟨#[100]⟩, 4)] from Rs.blk ((Blk.new W2 [.string ⟨#[97]⟩, .int .u64 1, .string ⟨#[98]⟩, .int .u64 2, .string ⟨#[99]⟩, .int .u64 3, .string ⟨#[100]⟩, .int .u64 4] 60).alloc _) rfl (by omega))
 have H4 := Hd (show Blk ((W2.alloc (.cells #[.string ⟨#[97]⟩, .int .u64 1, .string ⟨#[98]⟩, .int .u64 2, .string ⟨#[99]⟩, .int .u64 3, .string ⟨#[100]⟩, .int .u64 4] 60)).alloc (.cells #[.int .i64 0, .slice (some ⟨W2.heap.size, 0, none⟩) 4 4, .string ⟨#[]⟩, .bool true, .int .u64 0] 38)) (W2.heap.size + 1) 38 [.int .i64 0, .slice (some ⟨W2.heap.size, 0, none⟩) 4 4, .string ⟨#[]⟩, .bool true, .int .u64 0] from by
  have h := Blk.new (W2.alloc (.cells #[.string ⟨#[97]⟩, .int .u64 1, .string ⟨#[98]⟩, .int .u64 2, .string ⟨#[99]⟩, .int .u64 3, .string ⟨#[100]⟩, .int .u64 4] 60)) [.int .i64 0, .slice (some ⟨W2.heap.size, 0, none⟩) 4 4, .string ⟨#[]⟩, .bool true, .int .u64 0] 38
  rw [hz] at h
  exact h)
 replace HK := Hd (HK.out.trans hal (fun _ _ h => h.elim))
 replace H1 := Hd (hal.blk H1.out (fun h => h))
 replace HM := Hd (HM.out.kept hal (fun h => h) (fun h => h))
 replace H2 := Hd (hal.blk H2.out (fun h => h))
 clear hal hz
 generalize hgs : W2.heap.size = gs at *
 generalize (W2.alloc (.cells #[.string ⟨#[97]⟩, .int .u64 1, .string ⟨#[98]⟩, .int .u64 2, .string ⟨#[99]⟩, .int .u64 3, .string ⟨#[100]⟩, .int .u64 4] 60)).alloc (.cells #[.int .i64 0, .slice (some ⟨gs, 0, none⟩) 4 4, .string ⟨#[]⟩, .bool true, .int .u64 0] 38) = W3 at *
 have HGS := Hd (show r2 < gs from by have := HR2.out; omega)
 clear hgs
 have hx := H1.out
 obtain ⟨x0, x1, x2, x3, x4, x5, x6⟩ := hx.c7
 have hy := H4.out
 obtain ⟨y0, y1, y2, y3, y4⟩ := hy.c5
 clear hx hy
 go_wp2_with fail
 refine (kput_to 4 1 (by omega) (by omega) (by omega) (by omega) 0 (some ⟨gs, 0, none⟩) 4 ⟨#[]⟩ true 0 [(⟨#[97]⟩, 1), (⟨#[98]⟩, 2), (⟨#[99]⟩, 3), (⟨#[100]⟩, 4)] 4 rfl (fun _ => rfl) (by omega) (by omega) b g l 0 _ HM.out HRW.out (fun a ha h => by cases ha; have h1 := HR2.out; have h2 := HGS.out; have h3 : gs = b ∨ gs = g := h; omega)).mono ?_; rintro e W4 ⟨rfl, hM4, hK4⟩
 replace H1 := Hd (hK4.blk H1.out (fun h => by have h1 := HBG.out; have h2 := HR2.out; have h3 := HGS.out; rcases h with h | h <;> omega))
 replace H2 := Hd (hK4.blk H2.out (fun h => by have h1 := HBG.out; have h2 := HR2.out; have h3 := HGS.out; rcases h with h | h <;> omega))
 replace H4 := Hd (hK4.blk H4.out (fun h => by have h1 := HBG.out; have h2 := HR2.out; have h3 := HGS.out; rcases h with h | h <;> omega))
 replace HRW := Hd (HRW.out.keptF hK4 (fun a ha h => by cases ha; have h1 := HR2.out; have h2 := HGS.out; have h3 : gs = b ∨ gs = g := h; omega))
 replace HK := Hd (HK.out.trans hK4 (fun j hj h => by have h1 := HBG.out; rcases h with h | h <;> omega))
 replace HM := Hd hM4
 clear hM4 hK4 x0 x1 x2 x3 x4 x5 x6 y0 y1 y2 y3 y4
 obtain ⟨l1, hl1⟩ : ∃ l1, app l (pst (nad 4 1) (⟨0, ⟨#[]⟩, true, 0, [(⟨#[97]⟩, 1), (⟨#[98]⟩, 2), (⟨#[99]⟩, 3), (⟨#[100]⟩, 4)]⟩ : Pg)) = l1 := ⟨_, rfl⟩
 have HL1 := Hd hl1
 rw [hl1] at HM
 clear hl1
 go_upto_region 7 with fail
 have hx := H1.out
 obtain ⟨x0, x1, x2, x3, x4, x5, x6⟩ := hx.c7
 clear hx
 go_wp2_with fail
 refine (refNode_any 1 2 100 100 200 4 1000 1 0 (limF (F := 4) (by omega) (by omega)) (by omega) (by omega) (by omega) _).mono ?_; rintro e W5 ⟨rfl, hK5⟩
 replace HK := Hd (HK.out.trans hK5 (fun _ _ h => h.elim))
 replace H1 := Hd (hK5.blk H1.out (fun h => h))
 replace H2 := Hd (hK5.blk H2.out (fun h => h))
 replace HM := Hd (HM.out.kept hK5 (fun h => h) (fun h => h))
 replace H4 := Hd (hK5.blk H4.out (fun h => h))
 replace HRW := Hd (HRW.out.keptF hK5 (fun _ _ h => h))
 clear hK5 x0 x1 x2 x3 x4 x5 x6
 go_wp2_with fail
 refine (lock_of 0 1 (by decide) (by decide) _).mono ?_; rintro e W6 ⟨rfl, rfl⟩
 go_wp2_with fail
 refine (poke_any b g l1 0 (nla 4 1) 1 0 ⟨#[]⟩ _ HM.out).mono ?_; rintro e W6 ⟨rfl, hM6, hK6⟩
 replace H1 := Hd (hK6.blk H1.out (fun h => by have h1 := HBG.out; have h2 := HR2.out; have h3 := HGS.out; rcases h with h | h <;> omega))
 replace H2 := Hd (hK6.blk H2.out (fun h => by have h1 := HBG.out; have h2 := HR2.out; have h3 := HGS.out; rcases h with h | h <;> omega))
 replace H4 := Hd (hK6.blk H4.out (fun h => by have h1 := HBG.out; have h2 := HR2.out; have h3 := HGS.out; rcases h with h | h <;> omega))
 replace HRW := Hd (HRW.out.keptF hK6 (fun a ha h => by cases ha; have h1 := HR2.out; have h2 := HGS.out; have h3 : gs = b ∨ gs = g := h; omega))
 replace HK := Hd (HK.out.trans hK6 (fun j hj h => by have h1 := HBG.out; rcases h with h | h <;> omega))
 replace HM := Hd hM6
 clear hM6 hK6
 obtain ⟨l3, hl3⟩ : ∃ l3, putAt l1 (nla 4 1) (1, ⟨#[]⟩, 0) = l3 := ⟨_, rfl⟩
 rw [hl3] at HM
 have HL3 := Hd (show 4 < l3.length ∧ cellAt l3 4 = (((1 : Nat) : Int), (⟨#[]⟩ : ByteArray), (0 : Int)) from by
  have h1 := HS.out.lo
  have h2 : (nla 4 1 : Int) = 10 := by rw [nla_eq (by omega) (by omega)]; omega
  rw [← hl3, ← HL1.out]
  refine ⟨by rw [putAt_length, app_length]; omega, ?_⟩
  rw [cellAt_other (by omega), app_other _ _ (fun s hs => by
   obtain ⟨r, hr, rfl⟩ := pst_addr hs
   show nad 4 1 r ≠ 4
   rw [nad_eq (by omega) (by omega) (Nat.lt_of_lt_of_le hr (by decide)), h2]; omega)]
  exact HRT.out.2)
 clear hl3 HL1
 obtain ⟨AP, hAP⟩ : ∃ AP, (⟨0, ⟨#[]⟩, true, 0, [(⟨#[97]⟩, 1), (⟨#[98]⟩, 2), (⟨#[99]⟩, 3), (⟨#[100]⟩, 4)]⟩ : Pg) = AP := ⟨_, rfl⟩
 obtain ⟨AX, hAX⟩ : ∃ AX, npg (⟨0, ⟨#[]⟩, true, 0, [(⟨#[97]⟩, 1), (⟨#[98]⟩, 2), (⟨#[99]⟩, 3), (⟨#[100]⟩, 4)]⟩ : Pg) ⟨#[101]⟩ 5 = AX := ⟨_, rfl⟩
 have HXL := Hd (show AX.xs.length = 5 ∧ AX.lv = 0 from by rw [← hAX]; exact ⟨npg_length _ _ _, rfl⟩)
 obtain ⟨sp, hsp⟩ := sepr_ex AX.lv AX.xs 3 (by omega) (by have := HXL.out; omega)
 have HOK := Hd (show Iok 4 100 fb fd 1 1 AP AX 3 sp 100 1 l3 ⟨#[]⟩ 0 from ⟨limF (F := 4) (by omega) (by omega), HD.out, by rw [← hAP]; decide, by rw [← hAP]; decide, by have := HXL.out; omega, by have := HXL.out; omega, by decide, by have := HXL.out; omega, fun x hx => by
  rw [← hAX] at hx
  rcases (ins_mem.1 hx) with rfl | hx
  ·decide
  ·exact (show ∀ x ∈ ([(⟨#[97]⟩, 1), (⟨#[98]⟩, 2), (⟨#[99]⟩, 3), (⟨#[100]⟩, 4)] : List Sl), x.1.size ≤ 1000 from by decide) x hx, hsp, by decide, HL3.out.1, HL3.out.2⟩)
 clear hsp
 go_upto_region 8 with fail
 have HMB := Hd (show b < W6.heap.size ∧ g < W6.heap.size from ⟨HM.out.obj.lt, HM.out.row.lt⟩)
 refine wp_region_held_drew (S := (fun w' => Kept (fun _ => False) W6 w')) (by kernel_rfl) ?_ (fun hHeld => ?_)
 ·exact (Kept.refl _ _).drew
 have HW := Hd ((Kept.refl (fun _ => False) W6).drew)
 generalize W6.drew = G at *
 refine tkH 0 31 ?_ rfl ?_ hHeld ?_
 rotate_left
 ·(intro wq hSw; have hb9 := hSw.blk H2.out (fun h => h); obtain ⟨x0, x1, x2, x3, x4, x5, x6, x7, x8, x9⟩ := hb9.c10; clear hb9; have hb9 := hSw.blk H4.out (fun h => h); obtain ⟨y0, y1, y2, y3, y4⟩ := hb9.c5; clear hb9; go_simp; try with_reducible rfl)
 try simp only [aP,aA,aZ,aS]
 refine tkH 2 33 ?_ rfl ?_ hHeld ?_
 rotate_left
 ·(intro wq hSw; have hb9 := hSw.blk H2.out (fun h => h); obtain ⟨x0, x1, x2, x3, x4, x5, x6, x7, x8, x9⟩ := hb9.c10; clear hb9; have hb9 := hSw.blk H4.out (fun h => h); obtain ⟨y0, y1, y2, y3, y4⟩ := hb9.c5; clear hb9; go_simp; try with_reducible rfl)
 try simp only [aP,aA,aZ,aS]
 refine wpAnyH_ready (rs := [1]) (by kernel_rfl) (by simp) ?_
 refine AllReadyH.cons (o := ⟨some 32, _, _, _, _, _⟩) rfl (fun KK hK => ?_) AllReadyH.nil
 go_simp
 go_at_call 47
 refine (lock_of 0 1 (by decide) (by decide) _).mono ?_; rintro e G1 ⟨rfl, rfl⟩
 refine hK.out _ _ ?_ (fun hHeld2 => ?_)
 ·exact HW.out
 clear hK KK hHeld
 have hHeld := hHeld2
 clear hHeld2
 try simp only [aP,aA,aZ,aS]
 refine tkH 3 34 ?_ rfl ?_ hHeld ?_
 rotate_left
 ·(intro wq hSw; go_simp; try with_reducible rfl)
 try simp only [aP,aA,aZ,aS]
 refine wpAnyH_ready (rs := [4]) (by kernel_rfl) (by simp) ?_
 refine AllReadyH.cons (o := ⟨some 35, _, _, _, _, _⟩) rfl (fun KK hK => ?_) AllReadyH.nil
 go_simp
 go_at_call 18
 refine (newInsert_take 100 4 fb fd (limF (F := 4) (by omega) (by omega)) HD.out 1 1 (⟨0, ⟨#[]⟩, true, 0, [(⟨#[97]⟩, 1), (⟨#[98]⟩, 2), (⟨#[99]⟩, 3), (⟨#[100]⟩, 4)]⟩ : Pg) (some ⟨gs, 0, none⟩) 4 ⟨#[101]⟩ 5 100 _ (by decide) (by decide) (by decide) rfl (HRW.out.keptF HW.out (fun _ _ h => h)) awk_asc awk_has (by rw [npg_length]; decide)).mono ?_; rintro e W7 ⟨i, q, A1, c1, A2, c2, rfl, hI, hQ, hR1, hR2, hGE, hK7⟩
 rw [hAX] at hI hR2
 rw [hAP] at hI hR1 hGE
 have hsw := HW.out.size
 have HIA := Hd (show IAt (fun j => W6.heap.size ≤ j ∧ j < W7.heap.size) W7 4 100 fb fd i 1 1 AP AX 3 sp 100 (.tak false 0 ⟨#[]⟩ 0) from IAt.tak hI hQ ⟨by omega, hI.lt⟩ ⟨by omega, hQ.lt⟩ (by omega) hR1 hR2 (fun a ha hp => by
  obtain ⟨g9, o9, e9, h9, -⟩ := hR1.at hp
  have h1 := hGE.2.2.1 a ha hp
  rw [e9] at ha; cases ha
  exact ⟨⟨by have := h1.1; omega, h9⟩, h1.2.1, h1.2.2⟩) (fun a ha => by
  obtain ⟨g9, o9, e9, h9, -⟩ := hR2.at (by have := HXL.out; omega)
  have h1 := hGE.2.2.2 a ha
  rw [e9] at ha; cases ha
  exact ⟨⟨by have := h1.1; omega, h9⟩, h1.2.1, h1.2.2⟩))
 replace HW := Hd (HW.out.trans hK7 (fun _ _ h => h))
 clear hI hQ hR1 hR2 hGE hK7 hsw
 refine hK.out _ _ ?_ (fun hHeld2 => ?_)
 ·exact HW.out
 clear hK KK hHeld
 have hHeld := hHeld2
 clear hHeld2
 try simp only [aP,aA,aZ,aS]
 refine tkH 5 5 ?_ rfl ?_ hHeld ?_
 rotate_left
 ·(intro wq hSw; go_simp; try with_reducible rfl)
 try simp only [aP,aA,aZ,aS]
 refine wpAnyH_done (by kernel_rfl) ?_ _
 clear hHeld
 have HIP := Hd (show 0 < 2 + (frsN 4 100 AX 3 (1 + 1)).length + (wrsN 4 100 1 1 AP (lpg AX 3 sp (1 + 1))).length ∧ 2 + (frsN 4 100 AX 3 (1 + 1)).length + (wrsN 4 100 1 1 AP (lpg AX 3 sp (1 + 1))).length ≤ 16 ∧ Ipl 4 100 1 1 AP AX 3 sp 100 1 l3 ⟨#[]⟩ 0 (.tak false 0 ⟨#[]⟩ 0) l3 (2 + (frsN 4 100 AX 3 (1 + 1)).length + (wrsN 4 100 1 1 AP (lpg AX 3 sp (1 + 1))).length) from by
  have h1 := frsN_len (F := 4) (N := 100) AX 3 (1 + 1)
  have h2 := wrsN_len (F := 4) (N := 100) (id := 1) (wd := 1) AP (lpg AX 3 sp (1 + 1))
  have h3 := HXL.out
  have h4 : (lpg AX 3 sp (1 + 1)).xs.length = 3 := lpg_length (by omega)
  exact ⟨by omega, by omega, .tak0 (by omega)⟩)
 have HKS := Hd (show Kept (fun j => W6.heap.size ≤ j ∨ j = b ∨ j = g) W6 W7 from HW.out.mono (fun _ h => h.elim))
 replace HM := Hd (HM.out.kept HW.out (fun h => h) (fun h => h))
 have HB6 := Hd (show b < W6.heap.size ∧ g < W6.heap.size ∧ w.heap.size ≤ W6.heap.size from ⟨HMB.out.1, HMB.out.2, HK.out.size⟩)
 clear HRW H1 H2 H4 HW
 try clear hHeld
 go_wp2_with fail
 have HOL := Hd (show ∃ (s : Is) (d : Nat), 0 < d ∧ d ≤ 16 ∧ IAt (fun j => W6.heap.size ≤ j ∧ j < W7.heap.size) W7 4 100 fb fd i 1 1 AP AX 3 sp 100 s ∧ Ipl 4 100 1 1 AP AX 3 sp 100 1 l3 ⟨#[]⟩ 0 s l3 d ∧ s.two = true from ⟨_, _, HIP.out.1, HIP.out.2.1, HIA.out, HIP.out.2.2, rfl⟩)
 clear HIP HIA
 go_loopw [6] (fun kv wr => ∃ (k d : Nat) (Z : Nat → Prop) (s : Is) (l9 : List Cel), kv = .int .i64 (k : Int) ∧ 0 < d ∧ k + d ≤ 16 ∧ Mem wr b g l9 k ∧ IAt Z wr 4 100 fb fd i 1 1 AP AX 3 sp 100 s ∧ Ipl 4 100 1 1 AP AX 3 sp 100 1 l3 ⟨#[]⟩ 0 s l9 d ∧ s.two = true ∧ (∀ j, Z j → W6.heap.size ≤ j ∧ j < wr.heap.size) ∧ Kept (fun j => W6.heap.size ≤ j ∨ j = b ∨ j = g) W6 wr) (fun kv _ => 300 - (intOf kv).toNat)
 case atStart =>
  obtain ⟨s, d, h1, h2, h3, h4, h5⟩ := HOL.out
  exact ⟨0, d, _, s, l3, rfl, h1, by omega, HM.out, h3, h4, h5, fun j hj => hj, HKS.out⟩
 case round =>
  rename World => V1
  obtain ⟨k, d, Z, s, l9, rfl, hd0, hkd, hM, hA, hI, h2, hZ, hKV⟩ := hrel
  have HM1 := Hd hM
  have HA1 := Hd hA
  have HI1 := Hd hI
  have H21 := Hd h2
  have HZ1 := Hd hZ
  have HKV := Hd hKV
  clear hM hA hI h2 hZ hKV HOL
  have hk2 : (k : Int) < 200 := by omega
  have HKD := Hd hkd
  have HD0 := Hd hd0
  clear hkd hd0
  obtain ⟨k1, hk1⟩ : ∃ k1, k + 1 = k1 := ⟨_, rfl⟩
  have HKN := Hd hk1
  have hkw : IntKind.i64.wrap ((k : Int) + 1) = (k1 : Int) := by have := HKD.out; have := HD0.out; rw [IntKind.wrap_i64]; omega
  clear hk1
  go_wp2_with fail
  refine (ir_step HOK.out HA1.out HI1.out HD0.out b g k HM1.out (fun h => by have h1 := HZ1.out b h; have h2 := HB6.out; omega) (fun h => by have h1 := HZ1.out g h; have h2 := HB6.out; omega) (by have := HKD.out; omega)).mono ?_; rintro e V2 ⟨s', l', rfl, hM, hA, hI, hK, h2⟩
  have hsz := HKV.out.size
  have HM2 := Hd hM
  have HA2 := Hd hA
  have HI2 := Hd hI
  have H22 := Hd (h2.trans H21.out)
  have HZ2 := Hd (show ∀ j, Zm Z V1 V2 j → W6.heap.size ≤ j ∧ j < V2.heap.size from fun j hj => by
   have h1 := hK.size
   rcases hj with hj | hj
   ·have := HZ1.out j hj; omega
   ·omega)
  have HK2 := Hd (HKV.out.trans hK (fun j hj h => by
   rcases h with h | h | h
   ·exact .inl (HZ1.out j h).1
   ·exact .inr (.inl h)
   ·exact .inr (.inr h)))
  clear hM hA hI hK h2 hsz
  by_cases hd1 : d = 1
  ·have e1 : decide (d = 1) = true := by simp [hd1]
   rw [e1]
   have HI3 := Hd (show Ipl 4 100 1 1 AP AX 3 sp 100 1 l3 ⟨#[]⟩ 0 s' l' 0 from by have := HI2.out; rw [hd1] at this; exact this)
   obtain rfl := HI3.out.over H22.out (by omega)
   clear hd1 e1 HI2 HI3
   go_wp2_with fail
   refine (is_err 4 100 fb fd i 1 1 AP AX 3 sp 100 _ (some (1 + 1)) _ HA2.out).mono ?_; rintro e V3 ⟨rfl, hK3⟩
   replace HA2 := Hd (HA2.out.kept hK3 (fun _ _ h => h))
   replace HK2 := Hd (HK2.out.trans hK3 (fun _ _ h => h.elim))
   clear hK3
   have hlL : (lpg AX 3 sp (1 + 1)).xs.length = 3 := lpg_length (by have := HXL.out; omega)
   have hlR : (rpg AX 3).xs.length = 2 := by rw [rpg_length, HXL.out.1]
   go_wp2_with fail
   refine (is_left1 4 100 fb fd i 1 1 AP AX 3 sp 100 _ (1 + 1) _ HA2.out (by omega)).mono ?_; rintro e V4 ⟨A4, c4, rfl, -, -, hK3⟩
   have hf2 := hfield2 1 ((endW (beginW 1) : Nat) : Int) ((lpg AX 3 sp (1 + 1)).lv : Int) A4 (lpg AX 3 sp (1 + 1)).xs.length c4 (lpg AX 3 sp (1 + 1)).hi (lpg AX 3 sp (1 + 1)).la ((lpg AX 3 sp (1 + 1)).rt : Int)
   have hf1 := pfieldS ((lpg AX 3 sp (1 + 1)).lv : Int) A4 (lpg AX 3 sp (1 + 1)).xs.length c4 (lpg AX 3 sp (1 + 1)).hi (lpg AX 3 sp (1 + 1)).la ((lpg AX 3 sp (1 + 1)).rt : Int)
   rw [hlL] at hf1 hf2 ⊢
   replace HA2 := Hd (HA2.out.kept hK3 (fun _ _ h => h))
   replace HK2 := Hd (HK2.out.trans hK3 (fun _ _ h => h.elim))
   clear hK3 hlL
   go_wp2_with fail
   refine (is_right1 4 100 fb fd i 1 1 AP AX 3 sp 100 _ (1 + 1) _ HA2.out (by omega)).mono ?_; rintro e V5 ⟨A5, c5, rfl, -, -, hK3⟩
   clear hf1 hf2
   have hf2 := hfield2 2 1 ((rpg AX 3).lv : Int) A5 (rpg AX 3).xs.length c5 (rpg AX 3).hi (rpg AX 3).la ((rpg AX 3).rt : Int)
   have hf1 := pfieldS ((rpg AX 3).lv : Int) A5 (rpg AX 3).xs.length c5 (rpg AX 3).hi (rpg AX 3).la ((rpg AX 3).rt : Int)
   rw [hlR] at hf1 hf2 ⊢
   replace HA2 := Hd (HA2.out.kept hK3 (fun _ _ h => h))
   replace HK2 := Hd (HK2.out.trans hK3 (fun _ _ h => h.elim))
   clear hK3
   go_wp2_with fail
   clear hf1 hf2
   refine (is_right1 4 100 fb fd i 1 1 AP AX 3 sp 100 _ (1 + 1) _ HA2.out (by omega)).mono ?_; rintro e V6 ⟨A6, c6, rfl, -, -, hK3⟩
   have hf0 := hfield0 2 1 ((rpg AX 3).lv : Int) A6 (rpg AX 3).xs.length c6 (rpg AX 3).hi (rpg AX 3).la ((rpg AX 3).rt : Int)
   rw [hlR] at hf0 ⊢
   replace HK2 := Hd (HK2.out.trans hK3 (fun _ _ h => h.elim))
   clear hK3 hlR
   go_wp2
   go_ret
   exact ⟨rfl, HK.out.trans HK2.out (fun j hj h => by have h1 := HBG.out; have h3 := HB6.out; rcases h with h | h | h <;> omega)⟩
  ·have e1 : decide (d = 1) = false := by simp [hd1]
   rw [e1]
   have HDN := Hd hd1
   clear hd1 e1
   go_wp2
   go_roundw
   case rel => exact ⟨k1, d - 1, _, _, _, rfl, by have h1 := HD0.out; have h2 := HDN.out; omega, by have h1 := HKD.out; have h2 := HKN.out; have h3 := HD0.out; omega, by rw [← HKN.out]; exact HM2.out, HA2.out, HI2.out, H22.out, HZ2.out, HK2.out⟩
   case measure => have h1 := HKD.out; have h2 := HKN.out; simp [intOf]; omega

end Go.Proofs.YtjnodgebpklaoaaGreat
