/-
 A View's Sound of such a tree. Condition: a fanout of four to six.
-/
import Derived.Test.YtjnodgebpklaoaaGreatTgSndB
import Derived.Test.YtjnodgebpklaoaaGreatTgSndC
import Derived.Test.YtjnodgebpklaoaaGreatMgTwo
namespace Go.Proofs.YtjnodgebpklaoaaGreat
set_option maxHeartbeats 8000000
set_option maxRecDepth 100000
section
open Go.RowKit Go.Deep Plain
set_option linter.unusedVariables false

theorem vsound_allG (F : Nat) (h4 : 4 ≤ F) (h6 : F ≤ 6) (g n : Nat) (l : List Cel) (hl : l.length = n) (H : Nat) (kk : Nat) (nd : Nat → Nat → Nat) (mm : Nat → Nat) (lo : Nat → Nat → ByteArray) (pg : Nat → Nat → Pg) (T : TrG F l H kk nd mm lo pg) (ks : List ByteArray) (r : Nat → Nat) (off : Nat → Nat) (hlv : LeavesG ks r (mm 0) (lo 0) (pg 0) off) (hrf : RefsG r ks.length) (hz : ∀ L', L' < H → ∀ i, i < mm L' → ∃ wd : Nat, wd % 4 = 0 ∧ cellAt l (nla F (nd L' i)) = ((wd : Int), (⟨#[]⟩ : ByteArray), (0 : Int))) (hhi : ∀ L', L' < H → ∀ i, i < mm L' → ∀ x ∈ (pg L' i).xs, cov (pg L' i) x.1 = true) (hr : Rest F ks.length l) (hk40 : ks.length ≤ 100) (w : World) (hv : Blk w g 54 (flat3 l)) :
  Calls Tryz.prog 28 #[.agg #[.int .i64 1, .int .i64 2, .int .i64 100, .int .i64 100, .int .i64 200, .int .i64 (F : Int), .int .u64 1000, .slice (some ⟨g, 0, none⟩) n n]] w fun e w' => e = .returned (.bool true) ∧ Kept (fun _ => False) w w' := by
 have HZ := Hd hz
 have HHI := Hd hhi
 have HLV := Hd hlv
 have HRE := Hd hr
 have HRF := Hd hrf
 have hH1 := T.H1
 have hH100 := T.H100
 have h0 : 0 < H := by omega
 obtain ⟨top, htop⟩ : ∃ top, nd (H - 1) 0 = top := ⟨_, rfl⟩
 have HRT := Hd (show cellAt l 0 = ((top : Int), (⟨#[]⟩ : ByteArray), (0 : Int)) from by rw [← htop]; exact T.root)
 have HTOT := Hd (show cellAt l 4 = ((kk : Int), (⟨#[]⟩ : ByteArray), (0 : Int)) from T.tot)
 have htk : top ≤ kk ∧ kk ≤ 100 := by rw [← htop]; have := T.all (L := H - 1) (i := 0) (by omega) (by have := T.one; omega); omega
 have htb : 1 ≤ top ∧ top ≤ 100 := by rw [← htop]; have := T.all (L := H - 1) (i := 0) (by omega) (by have := T.one; omega); omega
 have HTOP := Hd htop
 clear hz hhi hlv hr hrf htop
 obtain ⟨i0, hi0, hz0, hz1, hz2⟩ := info_parts infoStr
 have HI0 := Hd hi0
 have HI1 := Hd hz0
 have HI2 := Hd hz1
 have HI3 := Hd hz2
 clear hi0 hz0 hz1 hz2
 have HV0 := Hd hv
 clear hv
 go_enter Tryz.func28, Tryz.ntmps28
 go_upto_region 1 with fail
 have hal := (Kept.refl (fun _ => False) w).alloc (.cells #[.int .i64 1, .int .i64 2, .int .i64 100, .int .i64 100, .int .i64 200, .int .i64 (F : Int), .int .u64 1000, .slice (some ⟨g, 0, none⟩) n n] 63)
 have HB := Hd (Blk.new w [.int .i64 1, .int .i64 2, .int .i64 100, .int .i64 100, .int .i64 200, .int .i64 (F : Int), .int .u64 1000, .slice (some ⟨g, 0, none⟩) n n] 63)
 have HV := Hd (hal.blk HV0.out (fun h => h))
 have HK := Hd hal
 clear hal
 generalize w.alloc (.cells #[.int .i64 1, .int .i64 2, .int .i64 100, .int .i64 100, .int .i64 200, .int .i64 (F : Int), .int .u64 1000, .slice (some ⟨g, 0, none⟩) n n] 63) = W at *
 generalize hr0 : w.heap.size = r0 at *
 have HR0 := Hd hr0
 clear hr0
 have f0 := field0 (top : Int) 0 ⟨#[]⟩
 refine qregion (fun w' => Kept (fun _ => False) W w') (by kernel_rfl) (by kernel_rfl) (Kept.refl _ _).drew ?_
 refine tkQ 10 ?_ (fun wq hSw => ?_) ?_
 rotate_left
 ·(have hb9 := hSw.blk HB.out (fun h => h); obtain ⟨x0, x1, x2, x3, x4, x5, x6, x7⟩ := hb9.c8; clear hb9; go_simp; try with_reducible rfl)
 try simp only [aP,aA,aZ,aS]
 refine tkQ 11 ?_ (fun wq hSw => ?_) ?_
 rotate_left
 ·(have hb9 := hSw.blk HB.out (fun h => h); obtain ⟨x0, x1, x2, x3, x4, x5, x6, x7⟩ := hb9.c8; clear hb9; go_simp; try with_reducible rfl)
 try simp only [aP,aA,aZ,aS]
 refine qcall (o := ⟨some 12, _, _, _, _, _⟩) (v := .agg #[.int .u64 (top : Int), .string ⟨#[]⟩, .int .u64 0]) (by rfl) (fun wq hSw => ?_) (fun wq hSw => Calls.mono (vat_any F h4 h6 g n l hl 0 (top : Int) 0 ⟨#[]⟩ _ (hSw.blk HV.out (fun h => h)) HRT.out) ?_) ?_
 ·(go_simp; try with_reducible rfl)
 ·rintro e w9 ⟨rfl, hk⟩; exact ⟨rfl, hSw.trans hk (fun _ _ h => h)⟩
 try simp only [aP,aA,aZ,aS]
 refine tkQ 13 ?_ (fun wq hSw => ?_) ?_
 rotate_left
 ·(go_simp; try with_reducible rfl)
 try simp only [aP,aA,aZ,aS]
 refine qcall (o := ⟨some 14, _, _, _, _, _⟩) (v := .bool true) (by rfl) (fun wq hSw => ?_) (fun wq hSw => Calls.mono (vnode_in F h4 h6 g n l hl top kk 0 ⟨#[]⟩ (by omega) (by omega) htk.1 _ (hSw.blk HV.out (fun h => h)) HTOT.out) ?_) ?_
 ·(go_simp; try with_reducible rfl)
 ·rintro e w9 ⟨rfl, hk⟩; exact ⟨rfl, hSw.trans hk (fun _ _ h => h)⟩
 try simp only [aP,aA,aZ,aS]
 refine tkQ 15 (.bool false) (fun wq hSw => ?_) ?_
 ·(go_simp; try first | (with_reducible rfl) | (simp; omega) | (intros; omega) | simp [*])
 try simp only [aP,aA,aZ,aS]
 refine tkQ 16 (.bool false) (fun wq hSw => ?_) ?_
 ·(go_simp; try first | (with_reducible rfl) | (simp; omega) | (intros; omega) | simp [*])
 try simp only [aP,aA,aZ,aS]
 refine tkQ 17 ?_ (fun wq hSw => ?_) ?_
 rotate_left
 ·(have hb9 := hSw.blk HB.out (fun h => h); obtain ⟨x0, x1, x2, x3, x4, x5, x6, x7⟩ := hb9.c8; clear hb9; go_simp; try with_reducible rfl)
 try simp only [aP,aA,aZ,aS]
 refine qcall (o := ⟨some 18, _, _, _, _, _⟩) (v := .bool true) (by rfl) (fun wq hSw => ?_) (fun wq hSw => Calls.mono (vcounters_any F h4 h6 g n l hl kk ks.length HTOT.out htk.2 HRE.out hk40 _ (hSw.blk HV.out (fun h => h))) ?_) ?_
 ·(go_simp; try with_reducible rfl)
 ·rintro e w9 ⟨rfl, hk⟩; exact ⟨rfl, hSw.trans hk (fun _ _ h => h)⟩
 try simp only [aP,aA,aZ,aS]
 refine tkQ 19 (.bool false) (fun wq hSw => ?_) ?_
 ·(go_simp; try first | (with_reducible rfl) | (simp; omega) | (intros; omega) | simp [*])
 try simp only [aP,aA,aZ,aS]
 refine tkQ 20 (.bool false) (fun wq hSw => ?_) ?_
 ·(go_simp; try first | (with_reducible rfl) | (simp; omega) | (intros; omega) | simp [*])
 try simp only [aP,aA,aZ,aS]
 refine tkQ 21 (.bool false) (fun wq hSw => ?_) ?_
 ·(go_simp; try first | (with_reducible rfl) | (simp; omega) | (intros; omega) | simp [*])
 try simp only [aP,aA,aZ,aS]
 refine tkQ 22 ?_ (fun wq hSw => ?_) ?_
 rotate_left
 ·(have hb9 := hSw.blk HB.out (fun h => h); obtain ⟨x0, x1, x2, x3, x4, x5, x6, x7⟩ := hb9.c8; clear hb9; go_simp; try with_reducible rfl)
 try simp only [aP,aA,aZ,aS]
 refine qcall (o := ⟨some 23, _, _, _, _, _⟩) (v := .bool true) (by rfl) (fun wq hSw => ?_) (fun wq hSw => Calls.mono (vchains_anyG F h4 h6 g n l hl H kk nd mm lo pg T h0 ks r off HLV.out hk40 HRE.out HRF.out _ (hSw.blk HV.out (fun h => h))) ?_) ?_
 ·(go_simp; try with_reducible rfl)
 ·rintro e w9 ⟨rfl, hk⟩; exact ⟨rfl, hSw.trans hk (fun _ _ h => h)⟩
 try simp only [aP,aA,aZ,aS]
 refine tkQ 24 (.bool false) (fun wq hSw => ?_) ?_
 ·(go_simp; try first | (with_reducible rfl) | (simp; omega) | (intros; omega) | simp [*])
 try simp only [aP,aA,aZ,aS]
 refine tkQ 25 (.bool false) (fun wq hSw => ?_) ?_
 ·(go_simp; try first | (with_reducible rfl) | (simp; omega) | (intros; omega) | simp [*])
 try simp only [aP,aA,aZ,aS]
 refine wpQuiet_nil ?_
 intro wz hHeld
 have HB1 := Hd (hHeld.blk HB.out (fun h => h))
 have HV1 := Hd (hHeld.blk HV.out (fun h => h))
 have HK := Hd (HK.out.trans hHeld (fun _ _ h => h))
 clear hHeld HB HV f0
 rename World => V1
 go_wp2_with fail
 go_loopw [3, 4, 5] (fun bv wv lvv wr => ∃ lv : Nat, lv ≤ H ∧ lvv = .int .i64 (lv : Int) ∧ ((lv = 0 ∧ bv = .slice none 0 0 ∧ wv = .slice none 0 0 ∧ Kept (fun _ => False) V1 wr) ∨ ∃ (L1 mB gB oB cB gW oW cW : Nat), lv = L1 + 1 ∧ mm L1 = mB ∧ bv = .slice (some ⟨gB, oB, none⟩) mB cB ∧ wv = .slice (some ⟨gW, oW, none⟩) mB cW ∧ gB < wr.heap.size ∧ (∀ k, k < mB → wr.cell? ⟨gB, oB + k, none⟩ = some (.int .u64 ((nd L1 k : Nat) : Int))) ∧ gW < wr.heap.size ∧ (∀ k, k < mB → wr.cell? ⟨gW, oW + k, none⟩ = some (.string (lo L1 k))) ∧ Kept (fun _ => False) V1 wr)) (fun _ _ lvv _ => H - (intOf lvv).toNat)
 case atStart => exact ⟨0, Nat.zero_le _, rfl, .inl ⟨rfl, rfl, rfl, Kept.refl _ _⟩⟩
 case round =>
  rename World => V2
  obtain ⟨lv, hlvH, rfl, hrel⟩ := hrel
  have hH : ((pg (H - 1) 0).lv : Int) + 1 = (H : Int) := by have := (T.lev (H - 1) (by omega)).lv 0 (by have := T.one; omega); omega
  have hnd0 := (T.lev (H - 1) (by omega)).nd 0 (by have := T.one; omega)
  have HND := Hd (show Nd F l top (pg (H - 1) 0) from by rw [← HTOP.out]; exact hnd0)
  have hKV : Kept (fun _ => False) V1 V2 := by
   rcases hrel with ⟨-, -, -, h⟩ | ⟨_, _, _, _, _, _, _, _, -, -, -, -, -, -, -, -, h⟩
   ·exact h
   ·exact h
  have HREL := Hd hrel
  have hbox := hKV.blk HB1.out (fun h => h)
  obtain ⟨x0, x1, x2, x3, x4, x5, x6, x7⟩ := hbox.c8
  have HBr := Hd hbox
  have HVr := Hd (hKV.blk HV1.out (fun h => h))
  have HHG := Hd (show Calls Tryz.prog 30 #[.agg #[.int .i64 1, .int .i64 2, .int .i64 100, .int .i64 100, .int .i64 200, .int .i64 (F : Int), .int .u64 1000, .slice (some ⟨g, 0, none⟩) n n]] V2 fun e w' => e = .returned (.int .i64 (H : Int)) ∧ Kept (fun _ => False) V2 w' from by
   have := height_any F h4 h6 g n l hl top 0 ⟨#[]⟩ htb.1 htb.2 (pg (H - 1) 0) HND.out.holds HND.out.wf HND.out.len (by omega) V2 HVr.out HRT.out
   rw [hH] at this
   exact this)
  have HKV := Hd hKV
  clear hrel hbox hKV hnd0 hH
  by_cases hlv : lv < H
  ·have hlvI : (lv : Int) < (H : Int) := by omega
   have hmp := (T.lev lv hlv).pos
   have hmt := (T.lev lv hlv).top
   go_wp2_with fail
   refine HHG.out.mono ?_; rintro e w2 ⟨rfl, hK2⟩
   have HK1 := Hd hK2
   replace HBr := Hd (hK2.blk HBr.out (fun h => h))
   replace HVr := Hd (hK2.blk HVr.out (fun h => h))
   clear hK2 x0 x1 x2 x3 x4 x5 x6 x7 HHG
   have hbox := HBr.out
   obtain ⟨x0, x1, x2, x3, x4, x5, x6, x7⟩ := hbox.c8
   clear hbox
   go_wp2_with fail
   refine (vlevel_inG F h4 h6 g n l hl H kk nd mm lo pg T lv hlv _ HVr.out).mono ?_; rintro e V3 ⟨AL, cL, rfl, hAL, hK9⟩
   obtain ⟨gL, oL, rfl, hgL, -, hcL⟩ := hAL (by omega)
   replace HBr := Hd (hK9.blk HBr.out (fun h => h))
   replace HVr := Hd (hK9.blk HVr.out (fun h => h))
   have HK2 := Hd (HK1.out.trans hK9 (fun _ _ h => h))
   clear hK9 hAL HK1 x0 x1 x2 x3 x4 x5 x6 x7
   replace HK := Hd (HK.out.trans HKV.out (fun _ _ h => h))
   rcases HREL.out with ⟨hl0, rfl, rfl, -⟩ | ⟨L1, mB, gB, oB, cB, gW, oW, cW, hle, hmB, rfl, rfl, hgB, hbc, hgW, hwc, -⟩
   ·clear HREL
    have HL0 := Hd hl0
    clear hl0
    have HIL := Hd (show mm lv - 1 < mm lv by omega)
    obtain ⟨m1, hm1⟩ : ∃ m1, mm lv - 1 = m1 := ⟨_, rfl⟩
    obtain ⟨nid0, hnid0⟩ : ∃ nid0, nd lv (mm lv - 1) = nid0 := ⟨_, rfl⟩
    obtain ⟨hi3, hhi3⟩ : ∃ x, (pg lv (mm lv - 1)).hi = x := ⟨_, rfl⟩
    have hla0 : (pg lv (mm lv - 1)).la = true := ((T.lev lv hlv).last (mm lv - 1) (by omega)).1
    obtain ⟨la3, hla3⟩ : ∃ x, (pg lv (mm lv - 1)).la = x := ⟨_, rfl⟩
    have hl3 : la3 = true := by rw [← hla3]; exact hla0
    have HHI3 := Hd hhi3
    have HLA3 := Hd hla3
    have HNI := Hd hnid0
    have HPAGE := Hd (show ∀ W', Kept (fun _ => False) V3 W' → Calls Tryz.prog 81 #[.agg #[.int .i64 1, .int .i64 2, .int .i64 100, .int .i64 100, .int .i64 200, .int .i64 (F : Int), .int .u64 1000, .slice (some ⟨g, 0, none⟩) n n], .int .u64 (nid0 : Int)] W' fun e w' => ∃ (A : Option Addr) (c n3 rt3 : Nat), e = .returned (.agg #[.int .i64 (lv : Int), .slice A n3 c, .string hi3, .bool la3, .int .u64 (rt3 : Int)]) ∧ Kept (fun _ => False) W' w' from fun W' hW => by
     refine (tpage_anyG F h4 h6 g n l hl H kk nd mm lo pg T lv (mm lv - 1) nid0 hlv HIL.out HNI.out.symm lv rfl W' (hW.blk HVr.out (fun h => h))).mono ?_
     rintro e w' ⟨A, c, rfl, -, -, hk⟩
     rw [HHI3.out, HLA3.out]
     exact ⟨A, c, _, _, rfl, hk⟩)
    obtain ⟨m, hm⟩ : ∃ m, mm lv = m := ⟨_, rfl⟩
    rw [hm] at hcL hmp hmt
    rw [hm]
    have HMM := Hd hm
    have HCLA := Hd (show ∀ i, i < m → V3.cell? ⟨gL, oL + i, none⟩ = some (.int .u64 ((nd lv i : Nat) : Int)) from fun i hi => hcL i _ (idsG_at hi))
    have hcl1 := HCLA.out m1 (by rw [← hm1, hm]; omega)
    have hnid1 : nd lv m1 = nid0 := by rw [← hm1]; exact hnid0
    rw [hnid1] at hcl1
    have HCL := Hd hcl1
    have hgLr : gL < V3.heap.size := hgL
    have hm1I : (m1 : Int) = (m : Int) - 1 := by rw [← hm1, hm]; omega
    have hm1a : IntKind.i64.wrap ((m : Int) - 1) = (m1 : Int) := by rw [IntKind.wrap_i64]; omega
    have hm1b : (m1 : Int) < (m : Int) := by omega
    have hm0 : ((m : Int) == 0) = false := by simp; omega
    subst hl3
    have HM1 := Hd hm1I
    clear hcL hcl1 hnid0 hnid1 hhi3 hla0 hla3 hm hm1 hm1I
    go_upto_region 9 with fail
    refine wp_region_held_drew (S := (fun w' => Kept (fun _ => False) V3 w')) (by kernel_rfl) ?_ (fun hHeld => ?_)
    ·exact (Kept.refl _ _).drew
    have HW := Hd ((Kept.refl (fun _ => False) V3).drew)
    generalize V3.drew = G at *
    refine tkH 0 35 ?_ rfl ?_ hHeld ?_
    rotate_left
    ·(intro wq hSw; go_simp; try with_reducible rfl)
    try simp only [aP,aA,aZ,aS]
    refine tkH 1 36 ?_ rfl ?_ hHeld ?_
    rotate_left
    ·(intro wq hSw; go_simp; try with_reducible rfl)
    try simp only [aP,aA,aZ,aS]
    refine tkH 2 37 (.bool false) rfl ?_ hHeld ?_
    ·(intro wq hSw; go_simp; try first | (with_reducible rfl) | (simp; omega) | (intros; omega) | simp [*])
    try simp only [aP,aA,aZ,aS]
    refine tkH 3 38 (.bool false) rfl ?_ hHeld ?_
    ·(intro wq hSw; go_simp; try first | (with_reducible rfl) | (simp; omega) | (intros; omega) | simp [*])
    try simp only [aP,aA,aZ,aS]
    refine tkH 4 39 ?_ rfl ?_ hHeld ?_
    rotate_left
    ·(intro wq hSw; have hb9 := hSw.blk HBr.out (fun h => h); obtain ⟨x0, x1, x2, x3, x4, x5, x6, x7⟩ := hb9.c8; clear hb9; have hc9 := (hSw.cell (p := ⟨gL, oL + m1, none⟩) hgLr (fun h => h)).trans HCL.out; go_simp; try with_reducible rfl)
    try simp only [aP,aA,aZ,aS]
    refine tkH 5 40 ?_ rfl ?_ hHeld ?_
    rotate_left
    ·(intro wq hSw; go_simp; try with_reducible rfl)
    try simp only [aP,aA,aZ,aS]
    refine tkH 6 41 ?_ rfl ?_ hHeld ?_
    rotate_left
    ·(intro wq hSw; go_simp; try with_reducible rfl)
    try simp only [aP,aA,aZ,aS]
    refine tkH 7 42 ?_ rfl ?_ hHeld ?_
    rotate_left
    ·(intro wq hSw; go_simp; try with_reducible rfl)
    try simp only [aP,aA,aZ,aS]
    refine tkH 8 43 (.int .i64 (m1 : Int)) rfl ?_ hHeld ?_
    ·(intro wq hSw; go_simp; try first | (with_reducible rfl) | (simp; omega) | (intros; omega) | simp [*])
    try simp only [aP,aA,aZ,aS]
    refine tkH 9 44 ?_ rfl ?_ hHeld ?_
    rotate_left
    ·(intro wq hSw; go_simp; try with_reducible rfl)
    try simp only [aP,aA,aZ,aS]
    refine tkH 10 45 ?_ rfl ?_ hHeld ?_
    rotate_left
    ·(intro wq hSw; have hb9 := hSw.blk HBr.out (fun h => h); obtain ⟨x0, x1, x2, x3, x4, x5, x6, x7⟩ := hb9.c8; clear hb9; have hc9 := (hSw.cell (p := ⟨gL, oL + m1, none⟩) hgLr (fun h => h)).trans HCL.out; go_simp; try with_reducible rfl)
    try simp only [aP,aA,aZ,aS]
    refine wpAnyH_ready (rs := [11]) (by kernel_rfl) (by simp) ?_
    refine AllReadyH.cons (o := ⟨some 46, _, _, _, _, _⟩) rfl (fun KK hK => ?_) (AllReadyH.nil)
    go_simp
    go_at_call 81
    refine (HPAGE.out _ HW.out).mono ?_; rintro e G ⟨A3, c3, n3, rt3, rfl, hK3⟩
    replace HW := Hd (HW.out.trans hK3 (fun _ _ h => h))
    have hpf := pfield3 (lv : Int) A3 n3 c3 hi3 true (rt3 : Int)
    clear hK3
    refine hK.out _ _ ?_ (fun hHeld2 => ?_)
    ·exact HW.out
    clear hK KK hHeld
    have hHeld := hHeld2
    clear hHeld2
    try simp only [aP,aA,aZ,aS]
    refine tkH 12 47 (.bool true) rfl ?_ hHeld ?_
    ·(intro wq hSw; go_simp; try first | (with_reducible rfl) | (simp; omega) | (intros; omega) | simp [*])
    try simp only [aP,aA,aZ,aS]
    refine tkH 13 48 (.bool false) rfl ?_ hHeld ?_
    ·(intro wq hSw; go_simp; try first | (with_reducible rfl) | (simp; omega) | (intros; omega) | simp [*])
    try simp only [aP,aA,aZ,aS]
    refine tkH 14 49 (.bool false) rfl ?_ hHeld ?_
    ·(intro wq hSw; go_simp; try first | (with_reducible rfl) | (simp; omega) | (intros; omega) | simp [*])
    try simp only [aP,aA,aZ,aS]
    refine wpAnyH_done (by kernel_rfl) ?_ _
    clear hHeld
    replace HBr := Hd (HW.out.blk HBr.out (fun h => h))
    replace HVr := Hd (HW.out.blk HVr.out (fun h => h))
    have HKa := Hd (HK2.out.trans HW.out (fun _ _ h => h))
    have HKl := Hd HW.out
    clear HW HPAGE HCL hm1a hm1b hm0 HK2
    rename World => V4
    go_wp2_with fail
    go_loopw [7, 8, 9] (fun ov lv8 iv wr => ∃ (i : Nat) (lw : ByteArray), i ≤ m ∧ iv = .int .i64 (i : Int) ∧ lv8 = .string lw ∧ (i < m → lw = lo lv i) ∧ slLen ov = i ∧ wr.ownsRow V4.heap.size 9 1 ov i (strv (lows0 (lo lv) i)) ∧ Below V4.heap.size V4 wr) (fun _ _ iv _ => m - (intOf iv).toNat)
    case atStart => exact ⟨0, ⟨#[]⟩, Nat.zero_le _, rfl, rfl, fun _ => (T.lev lv hlv).low0.symm, rfl, World.ownsRow_nil _ _ _ _, Below.refl _ _⟩
    case round =>
     rename World => V5
     obtain ⟨i, lw, hi1, rfl, rfl, hlw, hsl, hO, hBl⟩ := hrel
     have HO := Hd hO
     have HBl := Hd hBl
     have hz5 := hBl.size
     obtain ⟨A0, c0, rfl⟩ := strs_slice hO
     have hK45 := Below.kept hBl (S := fun _ => False) (fun i hi h => by omega)
     have HB5 := Hd (hK45.blk HBr.out (fun h => h))
     have HV5 := Hd (hK45.blk HVr.out (fun h => h))
     have HK5w := Hd (HKa.out.trans hK45 (fun _ _ h => h))
     have hgL4 : gL < V4.heap.size := Nat.lt_of_lt_of_le hgL HKl.out.size
     clear hO hBl hsl
     by_cases him1 : i < m
     ·have him : i < mm lv := by rw [HMM.out]; exact him1
      have himI : (i : Int) < (m : Int) := by omega
      obtain ⟨nid, hnid⟩ : ∃ nid, nd lv i = nid := ⟨_, rfl⟩
      have hlwe := hlw him1
      have hcl := HCLA.out i him1
      rw [hnid] at hcl
      have HCLb := Hd ((HKl.out.cell (p := ⟨gL, oL + i, none⟩) hgL (fun h => h)).trans hcl)
      have HCL5 := Hd ((hK45.cell (p := ⟨gL, oL + i, none⟩) hgL4 (fun h => h)).trans HCLb.out)
      have hgL5 : gL < V5.heap.size := by omega
      have HNI := Hd hnid
      subst hlwe
      obtain ⟨lw, hlwq⟩ : ∃ lw, lo lv i = lw := ⟨_, rfl⟩
      have HLWQ := Hd hlwq
      clear hK45 hcl hnid hlw hlwq
      go_upto_region 16 with fail
      refine qregion (fun w' => Kept (fun _ => False) V5 w') (by kernel_rfl) (by kernel_rfl) (Kept.refl _ _).drew ?_
      refine tkQ 56 ?_ (fun wq hSw => ?_) ?_
      rotate_left
      ·(have hb9 := hSw.blk HB5.out (fun h => h); obtain ⟨x0, x1, x2, x3, x4, x5, x6, x7⟩ := hb9.c8; clear hb9; have hc9 := (hSw.cell (p := ⟨gL, oL + i, none⟩) hgL5 (fun h => h)).trans HCL5.out; go_simp; try with_reducible rfl)
      try simp only [aP,aA,aZ,aS]
      refine tkQ 57 ?_ (fun wq hSw => ?_) ?_
      rotate_left
      ·(go_simp; try with_reducible rfl)
      try simp only [aP,aA,aZ,aS]
      refine tkQ 58 ?_ (fun wq hSw => ?_) ?_
      rotate_left
      ·(go_simp; try with_reducible rfl)
      try simp only [aP,aA,aZ,aS]
      refine tkQ 59 ?_ (fun wq hSw => ?_) ?_
      rotate_left
      ·(go_simp; try with_reducible rfl)
      try simp only [aP,aA,aZ,aS]
      refine tkQ 60 ?_ (fun wq hSw => ?_) ?_
      rotate_left
      ·(have hb9 := hSw.blk HB5.out (fun h => h); obtain ⟨x0, x1, x2, x3, x4, x5, x6, x7⟩ := hb9.c8; clear hb9; have hc9 := (hSw.cell (p := ⟨gL, oL + i, none⟩) hgL5 (fun h => h)).trans HCL5.out; go_simp; try with_reducible rfl)
      try simp only [aP,aA,aZ,aS]
      refine tkQ 61 ?_ (fun wq hSw => ?_) ?_
      rotate_left
      ·(go_simp; try with_reducible rfl)
      try simp only [aP,aA,aZ,aS]
      refine tkQ 62 ?_ (fun wq hSw => ?_) ?_
      rotate_left
      ·(go_simp; try with_reducible rfl)
      try simp only [aP,aA,aZ,aS]
      refine tkQ 63 ?_ (fun wq hSw => ?_) ?_
      rotate_left
      ·(go_simp; try with_reducible rfl)
      try simp only [aP,aA,aZ,aS]
      refine tkQ 64 ?_ (fun wq hSw => ?_) ?_
      rotate_left
      ·(go_simp; try with_reducible rfl)
      try simp only [aP,aA,aZ,aS]
      refine qcall (o := ⟨some 65, _, _, _, _, _⟩) (v := .bool true) (by rfl) (fun wq hSw => ?_) (fun wq hSw => Calls.mono (vsound_zeroG F h4 h6 g n l hl H kk nd mm lo pg T lv HL0.out hlv ks r off HLV.out HRF.out HZ.out HHI.out i nid him HNI.out.symm _ (hSw.blk HV5.out (fun h => h))) ?_) ?_
      ·(go_simp; try with_reducible rfl)
      ·rintro e w9 ⟨rfl, hk⟩; exact ⟨rfl, hSw.trans hk (fun _ _ h => h)⟩
      try simp only [aP,aA,aZ,aS]
      refine tkQ 66 (.bool false) (fun wq hSw => ?_) ?_
      ·(go_simp; try first | (with_reducible rfl) | (simp; omega) | (intros; omega) | simp [*])
      try simp only [aP,aA,aZ,aS]
      refine wpQuiet_nil ?_
      intro wz hHeld
      have hB56 := (hHeld.below (Nat.le_refl _) (fun _ h => h.elim)).mono hz5
      replace HBl := Hd (HBl.out.trans hB56)
      replace HO := Hd (own_kept HO.out hHeld (fun _ _ h => h))
      have HB6 := Hd (hHeld.blk HB5.out (fun h => h))
      have HV6 := Hd (hHeld.blk HV5.out (fun h => h))
      have hz6 : V4.heap.size ≤ wz.heap.size := Nat.le_trans hz5 hHeld.size
      clear hHeld hB56 HB5 HV5 HCL5 HK5w
      have hown := HO.out
      go_wp2_with (at_builtin; go_must (refine wpList_append_own _ rfl (.tmp 67) (.tmp 69) 22 rfl V4.heap.size 9 i0 _ 1 16 Tryz.underlying22 HI0.out HI1.out HI2.out HI3.out rfl (by decide) _ _ _ rfl (hown.alloc _) ⟨wz.heap.size, 0, none⟩ 1 1 [.string (lo lv i)] rfl rfl ?a1 ?b1 ?c1 ?d1 ?e1 ?_))
      try case a1 =>
       intro q' u hu
       match q', hu with
       | 0, hu => simp at hu; subst hu; simp [Addr.add]
       | q' + 1, hu => simp at hu
      case b1 => first | exact rfl | (intro u hu; simp at hu; subst hu; rfl)
      case c1 => unfold maxLen; omega
      case d1 => omega
      case e1 => first | omega | (simp; omega)
      intro v1 V7 hown1 hgr1 _
      have hal := (Below.refl wz.heap.size wz).alloc (Nat.le_refl _) (.cells #[.string (lo lv i)] 9)
      have hBe := Below.grown (hal.mono hz6) hgr1 (by rw [nblk_alloc]; omega) fun q hq => (hown.lt q hq).1
      have HBl7 := Hd (HBl.out.trans hBe)
      have hO1 : V7.ownsRow V4.heap.size 9 1 v1 (i + 1) (strv (lows0 (lo lv) (i + 1))) := by
       rw [lows0_step]; exact hown1
      have hz7 := HBl7.out.size
      have hK47 := Below.kept HBl7.out (S := fun _ => False) (fun i hi h => by omega)
      have HB7 := Hd (hK47.blk HBr.out (fun h => h))
      have HVr7 := Hd (hK47.blk HVr.out (fun h => h))
      have HCL7 := Hd ((hK47.cell (p := ⟨gL, oL + i, none⟩) hgL4 (fun h => h)).trans HCLb.out)
      have hgL7 : gL < V7.heap.size := by omega
      have HO7 := Hd hO1
      obtain ⟨A7, c7, rfl⟩ := strs_slice hO1
      have HSL7 := Hd (show slLen (.slice A7 (i + 1) c7) = i + 1 from rfl)
      obtain ⟨hi4, hhi4⟩ : ∃ x, (pg lv i).hi = x := ⟨_, rfl⟩
      have HHI4 := Hd hhi4
      have HNX7 := Hd (show i + 1 < m → hi4 = lo lv (i + 1) from fun h => by rw [← hhi4]; exact ((T.lev lv hlv).next i (by rw [HMM.out]; exact h)).2.2)
      have HPAGE7 := Hd (show ∀ W', Kept (fun _ => False) V7 W' → Calls Tryz.prog 81 #[.agg #[.int .i64 1, .int .i64 2, .int .i64 100, .int .i64 100, .int .i64 200, .int .i64 (F : Int), .int .u64 1000, .slice (some ⟨g, 0, none⟩) n n], .int .u64 (nid : Int)] W' fun e w' => ∃ (A : Option Addr) (c n3 : Nat) (la4 : Bool) (rt3 : Nat), e = .returned (.agg #[.int .i64 (lv : Int), .slice A n3 c, .string hi4, .bool la4, .int .u64 (rt3 : Int)]) ∧ Kept (fun _ => False) W' w' from fun W' hW => by
       refine (tpage_anyG F h4 h6 g n l hl H kk nd mm lo pg T lv i nid hlv him HNI.out.symm lv rfl W' (hW.blk HVr7.out (fun h => h))).mono ?_
       rintro e w' ⟨A, c, rfl, -, -, hk⟩
       rw [HHI4.out]
       exact ⟨A, c, _, _, _, rfl, hk⟩)
      clear hown1 hgr1 hal hBe hO1 hown hz6 hK47 hhi4
      go_upto_region 19 with fail
      refine wp_region_held_drew (S := (fun w' => Kept (fun _ => False) V7 w')) (by kernel_rfl) ?_ (fun hHeld => ?_)
      ·exact (Kept.refl _ _).drew
      have HW := Hd ((Kept.refl (fun _ => False) V7).drew)
      generalize V7.drew = G at *
      refine tkH 0 71 ?_ rfl ?_ hHeld ?_
      rotate_left
      ·(intro wq hSw; have hb9 := hSw.blk HB7.out (fun h => h); obtain ⟨x0, x1, x2, x3, x4, x5, x6, x7⟩ := hb9.c8; clear hb9; have hc9 := (hSw.cell (p := ⟨gL, oL + i, none⟩) hgL7 (fun h => h)).trans HCL7.out; go_simp; try with_reducible rfl)
      try simp only [aP,aA,aZ,aS]
      refine tkH 1 72 ?_ rfl ?_ hHeld ?_
      rotate_left
      ·(intro wq hSw; go_simp; try with_reducible rfl)
      try simp only [aP,aA,aZ,aS]
      refine tkH 2 73 ?_ rfl ?_ hHeld ?_
      rotate_left
      ·(intro wq hSw; go_simp; try with_reducible rfl)
      try simp only [aP,aA,aZ,aS]
      refine tkH 3 74 ?_ rfl ?_ hHeld ?_
      rotate_left
      ·(intro wq hSw; go_simp; try with_reducible rfl)
      try simp only [aP,aA,aZ,aS]
      refine tkH 4 75 ?_ rfl ?_ hHeld ?_
      rotate_left
      ·(intro wq hSw; have hb9 := hSw.blk HB7.out (fun h => h); obtain ⟨x0, x1, x2, x3, x4, x5, x6, x7⟩ := hb9.c8; clear hb9; have hc9 := (hSw.cell (p := ⟨gL, oL + i, none⟩) hgL7 (fun h => h)).trans HCL7.out; go_simp; try with_reducible rfl)
      try simp only [aP,aA,aZ,aS]
      refine wpAnyH_ready (rs := [5]) (by kernel_rfl) (by simp) ?_
      refine AllReadyH.cons (o := ⟨some 76, _, _, _, _, _⟩) rfl (fun KK hK => ?_) (AllReadyH.nil)
      go_simp
      go_at_call 81
      refine (HPAGE7.out _ HW.out).mono ?_; rintro e G ⟨A3, c3, n3, la4, rt3, rfl, hK3⟩
      replace HW := Hd (HW.out.trans hK3 (fun _ _ h => h))
      have hpf := pfield2 (lv : Int) A3 n3 c3 hi4 la4 (rt3 : Int)
      clear hK3
      refine hK.out _ _ ?_ (fun hHeld2 => ?_)
      ·exact HW.out
      clear hK KK hHeld
      have hHeld := hHeld2
      clear hHeld2
      try simp only [aP,aA,aZ,aS]
      refine tkH 6 77 (.string hi4) rfl ?_ hHeld ?_
      ·(intro wq hSw; go_simp; try first | (with_reducible rfl) | (simp; omega) | (intros; omega) | simp [*])
      try simp only [aP,aA,aZ,aS]
      refine tkH 7 8 ?_ rfl ?_ hHeld ?_
      rotate_left
      ·(intro wq hSw; go_simp; try with_reducible rfl)
      try simp only [aP,aA,aZ,aS]
      refine wpAnyH_done (by kernel_rfl) ?_ _
      clear hHeld
      have hHW := HW.out
      have hBz7 := (hHW.below (Nat.le_refl _) (fun _ h => h.elim)).mono hz7
      replace HBl7 := Hd (HBl7.out.trans hBz7)
      replace HO7 := Hd (own_kept HO7.out hHW (fun _ _ h => h))
      clear hHW hBz7 hz7 HW
      go_wp2
      go_roundw
      case rel => exact ⟨i + 1, hi4, by omega, by go_num, rfl, HNX7.out, HSL7.out, HO7.out, HBl7.out⟩
      case measure => simp [intOf]; omega
     ·have himI : ¬ (i : Int) < (m : Int) := by omega
      have hie : i = m := by omega
      have HIE := Hd hie
      have HK6 := Hd (HKV.out.trans HK5w.out (fun _ _ h => h))
      clear hK45 hlw hie
      go_wp2
      go_roundw
      case rel =>
       refine ⟨lv + 1, by omega, by go_num, .inr ⟨lv, m, gL, oL, cL, ?_⟩⟩
       have hO9 := HO.out
       rw [HIE.out] at hO9 ⊢
       rcases hO9.2 with ⟨_, hm9⟩ | ⟨g9, cap9, cur9, he9, hb9, hg9, _, _, _, ht9⟩
       ·omega
       cases he9
       refine ⟨g9, 0, _, rfl, HMM.out, rfl, rfl, by omega, fun k hk => ?_, (Array.getElem?_eq_some_iff.1 hg9).1, fun k hk => ?_, HK6.out⟩
       ·exact ((Below.kept HBl.out (S := fun _ => False) (fun i hi h => by omega)).cell (p := ⟨gL, oL + k, none⟩) hgL4 (fun h => h)).trans ((HKl.out.cell (p := ⟨gL, oL + k, none⟩) hgL (fun h => h)).trans (HCLA.out k hk))
       ·have := World.ownsRow.cells hO9 (g := g9) rfl k (.string (lo lv k)) (lows0_at (lo lv) hk)
        rw [Addr.add_lit] at this
        exact this
      case measure => simp [intOf]; omega
   ·clear HREL
    have HLE := Hd hle
    subst hmB
    have HBC := Hd hbc
    have HWC := Hd hwc
    clear hle hbc hwc
    have HIL := Hd (show mm lv - 1 < mm lv by omega)
    obtain ⟨m1, hm1⟩ : ∃ m1, mm lv - 1 = m1 := ⟨_, rfl⟩
    obtain ⟨nid0, hnid0⟩ : ∃ nid0, nd lv (mm lv - 1) = nid0 := ⟨_, rfl⟩
    obtain ⟨hi3, hhi3⟩ : ∃ x, (pg lv (mm lv - 1)).hi = x := ⟨_, rfl⟩
    have hla0 : (pg lv (mm lv - 1)).la = true := ((T.lev lv hlv).last (mm lv - 1) (by omega)).1
    obtain ⟨la3, hla3⟩ : ∃ x, (pg lv (mm lv - 1)).la = x := ⟨_, rfl⟩
    have hl3 : la3 = true := by rw [← hla3]; exact hla0
    have HHI3 := Hd hhi3
    have HLA3 := Hd hla3
    have HNI := Hd hnid0
    have HPAGE := Hd (show ∀ W', Kept (fun _ => False) V3 W' → Calls Tryz.prog 81 #[.agg #[.int .i64 1, .int .i64 2, .int .i64 100, .int .i64 100, .int .i64 200, .int .i64 (F : Int), .int .u64 1000, .slice (some ⟨g, 0, none⟩) n n], .int .u64 (nid0 : Int)] W' fun e w' => ∃ (A : Option Addr) (c n3 rt3 : Nat), e = .returned (.agg #[.int .i64 (lv : Int), .slice A n3 c, .string hi3, .bool la3, .int .u64 (rt3 : Int)]) ∧ Kept (fun _ => False) W' w' from fun W' hW => by
     refine (tpage_anyG F h4 h6 g n l hl H kk nd mm lo pg T lv (mm lv - 1) nid0 hlv HIL.out HNI.out.symm lv rfl W' (hW.blk HVr.out (fun h => h))).mono ?_
     rintro e w' ⟨A, c, rfl, -, -, hk⟩
     rw [HHI3.out, HLA3.out]
     exact ⟨A, c, _, _, rfl, hk⟩)
    obtain ⟨m, hm⟩ : ∃ m, mm lv = m := ⟨_, rfl⟩
    rw [hm] at hcL hmp hmt
    rw [hm]
    have HMM := Hd hm
    have HCLA := Hd (show ∀ i, i < m → V3.cell? ⟨gL, oL + i, none⟩ = some (.int .u64 ((nd lv i : Nat) : Int)) from fun i hi => hcL i _ (idsG_at hi))
    have hcl1 := HCLA.out m1 (by rw [← hm1, hm]; omega)
    have hnid1 : nd lv m1 = nid0 := by rw [← hm1]; exact hnid0
    rw [hnid1] at hcl1
    have HCL := Hd hcl1
    have hgLr : gL < V3.heap.size := hgL
    have hm1I : (m1 : Int) = (m : Int) - 1 := by rw [← hm1, hm]; omega
    have hm1a : IntKind.i64.wrap ((m : Int) - 1) = (m1 : Int) := by rw [IntKind.wrap_i64]; omega
    have hm1b : (m1 : Int) < (m : Int) := by omega
    have hm0 : ((m : Int) == 0) = false := by simp; omega
    subst hl3
    have HM1 := Hd hm1I
    clear hcL hcl1 hnid0 hnid1 hhi3 hla0 hla3 hm hm1 hm1I
    go_upto_region 9 with fail
    refine wp_region_held_drew (S := (fun w' => Kept (fun _ => False) V3 w')) (by kernel_rfl) ?_ (fun hHeld => ?_)
    ·exact (Kept.refl _ _).drew
    have HW := Hd ((Kept.refl (fun _ => False) V3).drew)
    generalize V3.drew = G at *
    refine tkH 0 35 ?_ rfl ?_ hHeld ?_
    rotate_left
    ·(intro wq hSw; go_simp; try with_reducible rfl)
    try simp only [aP,aA,aZ,aS]
    refine tkH 1 36 ?_ rfl ?_ hHeld ?_
    rotate_left
    ·(intro wq hSw; go_simp; try with_reducible rfl)
    try simp only [aP,aA,aZ,aS]
    refine tkH 2 37 (.bool false) rfl ?_ hHeld ?_
    ·(intro wq hSw; go_simp; try first | (with_reducible rfl) | (simp; omega) | (intros; omega) | simp [*])
    try simp only [aP,aA,aZ,aS]
    refine tkH 3 38 (.bool false) rfl ?_ hHeld ?_
    ·(intro wq hSw; go_simp; try first | (with_reducible rfl) | (simp; omega) | (intros; omega) | simp [*])
    try simp only [aP,aA,aZ,aS]
    refine tkH 4 39 ?_ rfl ?_ hHeld ?_
    rotate_left
    ·(intro wq hSw; have hb9 := hSw.blk HBr.out (fun h => h); obtain ⟨x0, x1, x2, x3, x4, x5, x6, x7⟩ := hb9.c8; clear hb9; have hc9 := (hSw.cell (p := ⟨gL, oL + m1, none⟩) hgLr (fun h => h)).trans HCL.out; go_simp; try with_reducible rfl)
    try simp only [aP,aA,aZ,aS]
    refine tkH 5 40 ?_ rfl ?_ hHeld ?_
    rotate_left
    ·(intro wq hSw; go_simp; try with_reducible rfl)
    try simp only [aP,aA,aZ,aS]
    refine tkH 6 41 ?_ rfl ?_ hHeld ?_
    rotate_left
    ·(intro wq hSw; go_simp; try with_reducible rfl)
    try simp only [aP,aA,aZ,aS]
    refine tkH 7 42 ?_ rfl ?_ hHeld ?_
    rotate_left
    ·(intro wq hSw; go_simp; try with_reducible rfl)
    try simp only [aP,aA,aZ,aS]
    refine tkH 8 43 (.int .i64 (m1 : Int)) rfl ?_ hHeld ?_
    ·(intro wq hSw; go_simp; try first | (with_reducible rfl) | (simp; omega) | (intros; omega) | simp [*])
    try simp only [aP,aA,aZ,aS]
    refine tkH 9 44 ?_ rfl ?_ hHeld ?_
    rotate_left
    ·(intro wq hSw; go_simp; try with_reducible rfl)
    try simp only [aP,aA,aZ,aS]
    refine tkH 10 45 ?_ rfl ?_ hHeld ?_
    rotate_left
    ·(intro wq hSw; have hb9 := hSw.blk HBr.out (fun h => h); obtain ⟨x0, x1, x2, x3, x4, x5, x6, x7⟩ := hb9.c8; clear hb9; have hc9 := (hSw.cell (p := ⟨gL, oL + m1, none⟩) hgLr (fun h => h)).trans HCL.out; go_simp; try with_reducible rfl)
    try simp only [aP,aA,aZ,aS]
    refine wpAnyH_ready (rs := [11]) (by kernel_rfl) (by simp) ?_
    refine AllReadyH.cons (o := ⟨some 46, _, _, _, _, _⟩) rfl (fun KK hK => ?_) (AllReadyH.nil)
    go_simp
    go_at_call 81
    refine (HPAGE.out _ HW.out).mono ?_; rintro e G ⟨A3, c3, n3, rt3, rfl, hK3⟩
    replace HW := Hd (HW.out.trans hK3 (fun _ _ h => h))
    have hpf := pfield3 (lv : Int) A3 n3 c3 hi3 true (rt3 : Int)
    clear hK3
    refine hK.out _ _ ?_ (fun hHeld2 => ?_)
    ·exact HW.out
    clear hK KK hHeld
    have hHeld := hHeld2
    clear hHeld2
    try simp only [aP,aA,aZ,aS]
    refine tkH 12 47 (.bool true) rfl ?_ hHeld ?_
    ·(intro wq hSw; go_simp; try first | (with_reducible rfl) | (simp; omega) | (intros; omega) | simp [*])
    try simp only [aP,aA,aZ,aS]
    refine tkH 13 48 (.bool false) rfl ?_ hHeld ?_
    ·(intro wq hSw; go_simp; try first | (with_reducible rfl) | (simp; omega) | (intros; omega) | simp [*])
    try simp only [aP,aA,aZ,aS]
    refine tkH 14 49 (.bool false) rfl ?_ hHeld ?_
    ·(intro wq hSw; go_simp; try first | (with_reducible rfl) | (simp; omega) | (intros; omega) | simp [*])
    try simp only [aP,aA,aZ,aS]
    refine wpAnyH_done (by kernel_rfl) ?_ _
    clear hHeld
    replace HBr := Hd (HW.out.blk HBr.out (fun h => h))
    replace HVr := Hd (HW.out.blk HVr.out (fun h => h))
    have HKa := Hd (HK2.out.trans HW.out (fun _ _ h => h))
    have HKl := Hd HW.out
    clear HW HPAGE HCL hm1a hm1b hm0 HK2
    rename World => V4
    go_wp2_with fail
    go_loopw [7, 8, 9] (fun ov lv8 iv wr => ∃ (i : Nat) (lw : ByteArray), i ≤ m ∧ iv = .int .i64 (i : Int) ∧ lv8 = .string lw ∧ (i < m → lw = lo lv i) ∧ slLen ov = i ∧ wr.ownsRow V4.heap.size 9 1 ov i (strv (lows0 (lo lv) i)) ∧ Below V4.heap.size V4 wr) (fun _ _ iv _ => m - (intOf iv).toNat)
    case atStart => exact ⟨0, ⟨#[]⟩, Nat.zero_le _, rfl, rfl, fun _ => (T.lev lv hlv).low0.symm, rfl, World.ownsRow_nil _ _ _ _, Below.refl _ _⟩
    case round =>
     rename World => V5
     obtain ⟨i, lw, hi1, rfl, rfl, hlw, hsl, hO, hBl⟩ := hrel
     have HO := Hd hO
     have HBl := Hd hBl
     have hz5 := hBl.size
     obtain ⟨A0, c0, rfl⟩ := strs_slice hO
     have hK45 := Below.kept hBl (S := fun _ => False) (fun i hi h => by omega)
     have HB5 := Hd (hK45.blk HBr.out (fun h => h))
     have HV5 := Hd (hK45.blk HVr.out (fun h => h))
     have HK5w := Hd (HKa.out.trans hK45 (fun _ _ h => h))
     have hgL4 : gL < V4.heap.size := Nat.lt_of_lt_of_le hgL HKl.out.size
     clear hO hBl hsl
     by_cases him1 : i < m
     ·have him : i < mm lv := by rw [HMM.out]; exact him1
      have himI : (i : Int) < (m : Int) := by omega
      obtain ⟨nid, hnid⟩ : ∃ nid, nd lv i = nid := ⟨_, rfl⟩
      have hlwe := hlw him1
      have hcl := HCLA.out i him1
      rw [hnid] at hcl
      have HCLb := Hd ((HKl.out.cell (p := ⟨gL, oL + i, none⟩) hgL (fun h => h)).trans hcl)
      have HCL5 := Hd ((hK45.cell (p := ⟨gL, oL + i, none⟩) hgL4 (fun h => h)).trans HCLb.out)
      have hgL5 : gL < V5.heap.size := by omega
      have HNI := Hd hnid
      subst hlwe
      obtain ⟨lw, hlwq⟩ : ∃ lw, lo lv i = lw := ⟨_, rfl⟩
      have HLWQ := Hd hlwq
      clear hK45 hcl hnid hlw hlwq
      go_upto_region 16 with fail
      refine qregion (fun w' => Kept (fun _ => False) V5 w') (by kernel_rfl) (by kernel_rfl) (Kept.refl _ _).drew ?_
      refine tkQ 56 ?_ (fun wq hSw => ?_) ?_
      rotate_left
      ·(have hb9 := hSw.blk HB5.out (fun h => h); obtain ⟨x0, x1, x2, x3, x4, x5, x6, x7⟩ := hb9.c8; clear hb9; have hc9 := (hSw.cell (p := ⟨gL, oL + i, none⟩) hgL5 (fun h => h)).trans HCL5.out; go_simp; try with_reducible rfl)
      try simp only [aP,aA,aZ,aS]
      refine tkQ 57 ?_ (fun wq hSw => ?_) ?_
      rotate_left
      ·(go_simp; try with_reducible rfl)
      try simp only [aP,aA,aZ,aS]
      refine tkQ 58 ?_ (fun wq hSw => ?_) ?_
      rotate_left
      ·(go_simp; try with_reducible rfl)
      try simp only [aP,aA,aZ,aS]
      refine tkQ 59 ?_ (fun wq hSw => ?_) ?_
      rotate_left
      ·(go_simp; try with_reducible rfl)
      try simp only [aP,aA,aZ,aS]
      refine tkQ 60 ?_ (fun wq hSw => ?_) ?_
      rotate_left
      ·(have hb9 := hSw.blk HB5.out (fun h => h); obtain ⟨x0, x1, x2, x3, x4, x5, x6, x7⟩ := hb9.c8; clear hb9; have hc9 := (hSw.cell (p := ⟨gL, oL + i, none⟩) hgL5 (fun h => h)).trans HCL5.out; go_simp; try with_reducible rfl)
      try simp only [aP,aA,aZ,aS]
      refine tkQ 61 ?_ (fun wq hSw => ?_) ?_
      rotate_left
      ·(go_simp; try with_reducible rfl)
      try simp only [aP,aA,aZ,aS]
      refine tkQ 62 ?_ (fun wq hSw => ?_) ?_
      rotate_left
      ·(go_simp; try with_reducible rfl)
      try simp only [aP,aA,aZ,aS]
      refine tkQ 63 ?_ (fun wq hSw => ?_) ?_
      rotate_left
      ·(go_simp; try with_reducible rfl)
      try simp only [aP,aA,aZ,aS]
      refine tkQ 64 ?_ (fun wq hSw => ?_) ?_
      rotate_left
      ·(go_simp; try with_reducible rfl)
      try simp only [aP,aA,aZ,aS]
      refine qcall (o := ⟨some 65, _, _, _, _, _⟩) (v := .bool true) (by rfl) (fun wq hSw => ?_) (fun wq hSw => Calls.mono (vsound_upG F h4 h6 g n l hl H kk nd mm lo pg T ks r off HLV.out HRF.out HZ.out HHI.out L1 lv i nid HLE.out hlv him HNI.out.symm (mm L1) rfl gB oB cB gW oW cW _ (hSw.blk HV5.out (fun h => h)) (Nat.lt_of_lt_of_le hgB (Nat.le_trans HK5w.out.size hSw.size)) (fun k hk => (hSw.cell (p := ⟨gB, oB + k, none⟩) (Nat.lt_of_lt_of_le hgB HK5w.out.size) (fun h => h)).trans ((HK5w.out.cell (p := ⟨gB, oB + k, none⟩) hgB (fun h => h)).trans (HBC.out k hk))) (Nat.lt_of_lt_of_le hgW (Nat.le_trans HK5w.out.size hSw.size)) (fun k hk => (hSw.cell (p := ⟨gW, oW + k, none⟩) (Nat.lt_of_lt_of_le hgW HK5w.out.size) (fun h => h)).trans ((HK5w.out.cell (p := ⟨gW, oW + k, none⟩) hgW (fun h => h)).trans (HWC.out k hk)))) ?_) ?_
      ·(go_simp; try with_reducible rfl)
      ·rintro e w9 ⟨rfl, hk⟩; exact ⟨rfl, hSw.trans hk (fun _ _ h => h)⟩
      try simp only [aP,aA,aZ,aS]
      refine tkQ 66 (.bool false) (fun wq hSw => ?_) ?_
      ·(go_simp; try first | (with_reducible rfl) | (simp; omega) | (intros; omega) | simp [*])
      try simp only [aP,aA,aZ,aS]
      refine wpQuiet_nil ?_
      intro wz hHeld
      have hB56 := (hHeld.below (Nat.le_refl _) (fun _ h => h.elim)).mono hz5
      replace HBl := Hd (HBl.out.trans hB56)
      replace HO := Hd (own_kept HO.out hHeld (fun _ _ h => h))
      have HB6 := Hd (hHeld.blk HB5.out (fun h => h))
      have HV6 := Hd (hHeld.blk HV5.out (fun h => h))
      have hz6 : V4.heap.size ≤ wz.heap.size := Nat.le_trans hz5 hHeld.size
      clear hHeld hB56 HB5 HV5 HCL5 HK5w
      have hown := HO.out
      go_wp2_with (at_builtin; go_must (refine wpList_append_own _ rfl (.tmp 67) (.tmp 69) 22 rfl V4.heap.size 9 i0 _ 1 16 Tryz.underlying22 HI0.out HI1.out HI2.out HI3.out rfl (by decide) _ _ _ rfl (hown.alloc _) ⟨wz.heap.size, 0, none⟩ 1 1 [.string (lo lv i)] rfl rfl ?a1 ?b1 ?c1 ?d1 ?e1 ?_))
      try case a1 =>
       intro q' u hu
       match q', hu with
       | 0, hu => simp at hu; subst hu; simp [Addr.add]
       | q' + 1, hu => simp at hu
      case b1 => first | exact rfl | (intro u hu; simp at hu; subst hu; rfl)
      case c1 => unfold maxLen; omega
      case d1 => omega
      case e1 => first | omega | (simp; omega)
      intro v1 V7 hown1 hgr1 _
      have hal := (Below.refl wz.heap.size wz).alloc (Nat.le_refl _) (.cells #[.string (lo lv i)] 9)
      have hBe := Below.grown (hal.mono hz6) hgr1 (by rw [nblk_alloc]; omega) fun q hq => (hown.lt q hq).1
      have HBl7 := Hd (HBl.out.trans hBe)
      have hO1 : V7.ownsRow V4.heap.size 9 1 v1 (i + 1) (strv (lows0 (lo lv) (i + 1))) := by
       rw [lows0_step]; exact hown1
      have hz7 := HBl7.out.size
      have hK47 := Below.kept HBl7.out (S := fun _ => False) (fun i hi h => by omega)
      have HB7 := Hd (hK47.blk HBr.out (fun h => h))
      have HVr7 := Hd (hK47.blk HVr.out (fun h => h))
      have HCL7 := Hd ((hK47.cell (p := ⟨gL, oL + i, none⟩) hgL4 (fun h => h)).trans HCLb.out)
      have hgL7 : gL < V7.heap.size := by omega
      have HO7 := Hd hO1
      obtain ⟨A7, c7, rfl⟩ := strs_slice hO1
      have HSL7 := Hd (show slLen (.slice A7 (i + 1) c7) = i + 1 from rfl)
      obtain ⟨hi4, hhi4⟩ : ∃ x, (pg lv i).hi = x := ⟨_, rfl⟩
      have HHI4 := Hd hhi4
      have HNX7 := Hd (show i + 1 < m → hi4 = lo lv (i + 1) from fun h => by rw [← hhi4]; exact ((T.lev lv hlv).next i (by rw [HMM.out]; exact h)).2.2)
      have HPAGE7 := Hd (show ∀ W', Kept (fun _ => False) V7 W' → Calls Tryz.prog 81 #[.agg #[.int .i64 1, .int .i64 2, .int .i64 100, .int .i64 100, .int .i64 200, .int .i64 (F : Int), .int .u64 1000, .slice (some ⟨g, 0, none⟩) n n], .int .u64 (nid : Int)] W' fun e w' => ∃ (A : Option Addr) (c n3 : Nat) (la4 : Bool) (rt3 : Nat), e = .returned (.agg #[.int .i64 (lv : Int), .slice A n3 c, .string hi4, .bool la4, .int .u64 (rt3 : Int)]) ∧ Kept (fun _ => False) W' w' from fun W' hW => by
       refine (tpage_anyG F h4 h6 g n l hl H kk nd mm lo pg T lv i nid hlv him HNI.out.symm lv rfl W' (hW.blk HVr7.out (fun h => h))).mono ?_
       rintro e w' ⟨A, c, rfl, -, -, hk⟩
       rw [HHI4.out]
       exact ⟨A, c, _, _, _, rfl, hk⟩)
      clear hown1 hgr1 hal hBe hO1 hown hz6 hK47 hhi4
      go_upto_region 19 with fail
      refine wp_region_held_drew (S := (fun w' => Kept (fun _ => False) V7 w')) (by kernel_rfl) ?_ (fun hHeld => ?_)
      ·exact (Kept.refl _ _).drew
      have HW := Hd ((Kept.refl (fun _ => False) V7).drew)
      generalize V7.drew = G at *
      refine tkH 0 71 ?_ rfl ?_ hHeld ?_
      rotate_left
      ·(intro wq hSw; have hb9 := hSw.blk HB7.out (fun h => h); obtain ⟨x0, x1, x2, x3, x4, x5, x6, x7⟩ := hb9.c8; clear hb9; have hc9 := (hSw.cell (p := ⟨gL, oL + i, none⟩) hgL7 (fun h => h)).trans HCL7.out; go_simp; try with_reducible rfl)
      try simp only [aP,aA,aZ,aS]
      refine tkH 1 72 ?_ rfl ?_ hHeld ?_
      rotate_left
      ·(intro wq hSw; go_simp; try with_reducible rfl)
      try simp only [aP,aA,aZ,aS]
      refine tkH 2 73 ?_ rfl ?_ hHeld ?_
      rotate_left
      ·(intro wq hSw; go_simp; try with_reducible rfl)
      try simp only [aP,aA,aZ,aS]
      refine tkH 3 74 ?_ rfl ?_ hHeld ?_
      rotate_left
      ·(intro wq hSw; go_simp; try with_reducible rfl)
      try simp only [aP,aA,aZ,aS]
      refine tkH 4 75 ?_ rfl ?_ hHeld ?_
      rotate_left
      ·(intro wq hSw; have hb9 := hSw.blk HB7.out (fun h => h); obtain ⟨x0, x1, x2, x3, x4, x5, x6, x7⟩ := hb9.c8; clear hb9; have hc9 := (hSw.cell (p := ⟨gL, oL + i, none⟩) hgL7 (fun h => h)).trans HCL7.out; go_simp; try with_reducible rfl)
      try simp only [aP,aA,aZ,aS]
      refine wpAnyH_ready (rs := [5]) (by kernel_rfl) (by simp) ?_
      refine AllReadyH.cons (o := ⟨some 76, _, _, _, _, _⟩) rfl (fun KK hK => ?_) (AllReadyH.nil)
      go_simp
      go_at_call 81
      refine (HPAGE7.out _ HW.out).mono ?_; rintro e G ⟨A3, c3, n3, la4, rt3, rfl, hK3⟩
      replace HW := Hd (HW.out.trans hK3 (fun _ _ h => h))
      have hpf := pfield2 (lv : Int) A3 n3 c3 hi4 la4 (rt3 : Int)
      clear hK3
      refine hK.out _ _ ?_ (fun hHeld2 => ?_)
      ·exact HW.out
      clear hK KK hHeld
      have hHeld := hHeld2
      clear hHeld2
      try simp only [aP,aA,aZ,aS]
      refine tkH 6 77 (.string hi4) rfl ?_ hHeld ?_
      ·(intro wq hSw; go_simp; try first | (with_reducible rfl) | (simp; omega) | (intros; omega) | simp [*])
      try simp only [aP,aA,aZ,aS]
      refine tkH 7 8 ?_ rfl ?_ hHeld ?_
      rotate_left
      ·(intro wq hSw; go_simp; try with_reducible rfl)
      try simp only [aP,aA,aZ,aS]
      refine wpAnyH_done (by kernel_rfl) ?_ _
      clear hHeld
      have hHW := HW.out
      have hBz7 := (hHW.below (Nat.le_refl _) (fun _ h => h.elim)).mono hz7
      replace HBl7 := Hd (HBl7.out.trans hBz7)
      replace HO7 := Hd (own_kept HO7.out hHW (fun _ _ h => h))
      clear hHW hBz7 hz7 HW
      go_wp2
      go_roundw
      case rel => exact ⟨i + 1, hi4, by omega, by go_num, rfl, HNX7.out, HSL7.out, HO7.out, HBl7.out⟩
      case measure => simp [intOf]; omega
     ·have himI : ¬ (i : Int) < (m : Int) := by omega
      have hie : i = m := by omega
      have HIE := Hd hie
      have HK6 := Hd (HKV.out.trans HK5w.out (fun _ _ h => h))
      clear hK45 hlw hie
      go_wp2
      go_roundw
      case rel =>
       refine ⟨lv + 1, by omega, by go_num, .inr ⟨lv, m, gL, oL, cL, ?_⟩⟩
       have hO9 := HO.out
       rw [HIE.out] at hO9 ⊢
       rcases hO9.2 with ⟨_, hm9⟩ | ⟨g9, cap9, cur9, he9, hb9, hg9, _, _, _, ht9⟩
       ·omega
       cases he9
       refine ⟨g9, 0, _, rfl, HMM.out, rfl, rfl, by omega, fun k hk => ?_, (Array.getElem?_eq_some_iff.1 hg9).1, fun k hk => ?_, HK6.out⟩
       ·exact ((Below.kept HBl.out (S := fun _ => False) (fun i hi h => by omega)).cell (p := ⟨gL, oL + k, none⟩) hgL4 (fun h => h)).trans ((HKl.out.cell (p := ⟨gL, oL + k, none⟩) hgL (fun h => h)).trans (HCLA.out k hk))
       ·have := World.ownsRow.cells hO9 (g := g9) rfl k (.string (lo lv k)) (lows0_at (lo lv) hk)
        rw [Addr.add_lit] at this
        exact this
      case measure => simp [intOf]; omega
  ·have hlvI : ¬ (lv : Int) < (H : Int) := by omega
   go_wp2_with fail
   refine HHG.out.mono ?_; rintro e w2 ⟨rfl, hK2⟩
   have HK9 := Hd (HK.out.trans (HKV.out.trans hK2 (fun _ _ h => h)) (fun _ _ h => h))
   clear hK2
   go_wp2
   go_ret
   refine ⟨rfl, ?_⟩
   have := HK9.out
   exact this

end
end Go.Proofs.YtjnodgebpklaoaaGreat
